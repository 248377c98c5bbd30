/- texts -/
import Derived.Test.YteihfbkaieemdaaGreatDoorVj
import Derived.Test.YteihfbkaieemdaaGreatDoorMz42q
import Derived.Test.YteihfbkaieemdaaGreatDoorCf
namespace Go.Proofs.YteihfbkaieemdaaGreatDoor
open Go.RowKit Go.Gb
theorem z4Z {a c:Rat}(h:c≤a):(exOf (row2 a c) 1).2=a:=by
 have h1:=qF a c;have h2:=mQ a c;grind
theorem z5K {a c:Rat}(h:a≤c):(exOf (row2 a c) 1).2=c:=by
 have h1:=qF a c;have h2:=mQ a c;grind
theorem z4Y {a c:Rat}(h:a≤c):(exOf (row2 a c) 1).1=a:=by
 have h1:=qF a c;have h2:=mQ a c;grind
theorem z5J {a c:Rat}(h:c≤a):(exOf (row2 a c) 1).1=c:=by
 have h1:=qF a c;have h2:=mQ a c;grind
theorem mU {p q:Rat}(hp:aR p)(hq:aR q):aR (exOf (row2 p q) 1).1∧aR (exOf (row2 p q) 1).2 :=
 rz (row2 p q) 1 (fun j hj=>match j,hj with
  | 0,_=>hp
  | 1,_=>hq)
theorem z5b (a b c d p q:Rat)(hp:(exOf (row2 a c) 1).2=p)(hq:(exOf (row2 b d) 1).1=q)(h1:a≤b)(h2:c≤d)(h3:p≤q)(ha:aR a)(hb:aR b)(hc:aR c)(hd:aR d)(w:World)(hl:La w) :
 CR 17 #[Vq a b,Vq c d] w (.tuple #[Vq p q,.bool true]):=by
 have f1:=(mU ha hc).2;have f2:=(mU hb hd).1;rw[hp]at f1;rw[hq]at f2
 refine z0o _ _ _ _ (Sq (exOf (row2 a c) 1).1) _ _ (Sq (exOf (row2 b d) 1).2) (cmpQ p q) (by
  have:=ut h3
  rw[decide_eq_false_iff_not];omega) w hl (fun W hW=>bS a b h1 ha hb W hW) (fun W hW=>bS c d h2 hc hd W hW) (fun W g hW hg c0 c1=>?_) (fun W g hW hg c0 c1=>?_) (fun W hW=>iY p q _ rfl f1 f2 W hW)
 · have h:=ext2 a c ha hc W g hW hg c0 c1
   rwa [hp]at h
 · have h:=ext2 b d hb hd W g hW hg c0 c1
   rwa [hq]at h
theorem vv (a b c d p q:Rat)(hp:(exOf (row2 a c) 1).2=p)(hq:(exOf (row2 b d) 1).1=q)(h1:a≤b)(h2:c≤d)(h3:q<p)(ha:aR a)(hb:aR b)(hc:aR c)(hd:aR d)(w:World)(hl:La w) :
 CR 17 #[Vq a b,Vq c d] w (.tuple #[.agg #[.string ⟨#[]⟩,.string ⟨#[]⟩],.bool false]):=by
 have f1:=(mU ha hc).2;have f2:=(mU hb hd).1;rw[hp]at f1;rw[hq]at f2;refine nP _ _ _ _ (Sq (exOf (row2 a c) 1).1) (Sq p) (Sq q) (Sq (exOf (row2 b d) 1).2) w hl (fun W hW=>bS a b h1 ha hb W hW) (fun W hW=>bS c d h2 hc hd W hW) (fun W g hW hg c0 c1=>?_) (fun W g hW hg c0 c1=>?_) (fun W hW=>iY p q 1 (lZ h3) f1 f2 W hW)
 · have h:=ext2 a c ha hc W g hW hg c0 c1
   rwa [hp]at h
 · have h:=ext2 b d hb hd W g hW hg c0 c1
   rwa [hq]at h
theorem z3I (g:Nat)(w:World)(hl:La w)(hg:g<w.heap.size)(hc:w.cell? ⟨g,0,none⟩=some (.string ⟨#[49]⟩)∧w.cell? ⟨g,1,none⟩=some (.string ⟨#[50]⟩)∧w.cell? ⟨g,2,none⟩=some (.string ⟨#[53]⟩)∧w.cell? ⟨g,3,none⟩=some (.string ⟨#[54]⟩)) :
 CR 19 #[.slice (some ⟨g,0,none⟩) 2 2] w (.tuple #[.agg #[.string ⟨#[49]⟩,.string ⟨#[54]⟩],.int .i64 0]):=by
 obtain⟨c0,c1,c2,c3⟩:=hc
 have h:=z2q g 2 2 (row4 1 2 5 6) (by decide) (by decide) (by decide) w hl hg
  (fun i hi=>match i,hi with
   | 0,_=>aH (q:=1) (by decide +kernel) (by decide +kernel)
   | 1,_=>aH (q:=2) (by decide +kernel) (by decide +kernel)
   | 2,_=>aH (q:=5) (by decide +kernel) (by decide +kernel)
   | 3,_=>aH (q:=6) (by decide +kernel) (by decide +kernel))
  (fun i hi=>match i,hi with
   | 0,_=>(show(1:Rat)≤2 by decide +kernel)
   | 1,_=>(show(5:Rat)≤6 by decide +kernel))
  (fun i hi=>match i,hi with
   | 0,_=>c0.trans (congrArg (fun x=>some (Value.string x)) (show⟨#[49]⟩=Sq 1 by decide +kernel))
   | 1,_=>c1.trans (congrArg (fun x=>some (Value.string x)) (show⟨#[50]⟩=Sq 2 by decide +kernel))
   | 2,_=>c2.trans (congrArg (fun x=>some (Value.string x)) (show⟨#[53]⟩=Sq 5 by decide +kernel))
   | 3,_=>c3.trans (congrArg (fun x=>some (Value.string x)) (show⟨#[54]⟩=Sq 6 by decide +kernel)))
 rw[show Vq (exOf (row4 1 2 5 6) (2*2-1)).1 (exOf (row4 1 2 5 6) (2*2-1)).2=.agg #[.string ⟨#[49]⟩,.string ⟨#[54]⟩]from by unfold Vq;rw[show Sq (exOf (row4 1 2 5 6) (2*2-1)).1=⟨#[49]⟩by decide +kernel,show Sq (exOf (row4 1 2 5 6) (2*2-1)).2=⟨#[54]⟩by decide +kernel]]at h;exact h
set_option maxRecDepth 100000
set_option maxHeartbeats 20000000
open Go.Lib (hid)
set_option linter.unusedSimpArgs false
theorem z2r (xa ya:Rat)(k:Int)(q1:QS)(q2:QS)(w:World)(hk:decide (k≤0)=true)(h1:KP2 54 xa ya (.int .i64 k))(r1:FQ w q1 xa)(r2:FQ w q2 ya) :
 Calls Tryz.prog 53 #[(QS.v q1),(QS.v q2)] w (RQ w xa):=by
 dsimp only[QS.v];obtain ⟨C1,R1,R2⟩:=ak h1 r1 r2;have hkk:=hk;clear hk h1 r1 r2;go_enter Tryz.func53,Tryz.ntmps53
 go_upto_region 1 with fail
 refine az w [(q1.l.toArray,54),(q2.l.toArray,54),(#[.bool false,.slice none 0 0,.slice none 0 0],54)] rfl ?_;rintro W0 ⟨k1,k2,k3,hb⟩;have u6:=hid (show Below w.heap.size w W0 from hb);obtain ⟨R1,R2⟩:=aP u6.o R1 R2;obtain ⟨K1,K2,K3⟩:=ak k1 k2 k3;clear k1 k2 k3 hb;obtain ⟨w9,wm,wo⟩:=aS K1.o rfl rfl rfl;obtain ⟨wu,ww,si⟩:=aS K2.o rfl rfl rfl;go_wp2_with fail
 with_reducible refine(C1.o _ _ _ R1.o R2.o).mono ?_
 rintro e W1 ⟨rfl,hb⟩;clear w9 wm wo wu ww si;obtain ⟨K1,K3,R1⟩:=bR hb K1 K3 R1;have sj:=hbt u6 hb;clear hb;obtain ⟨w9,wm,wo⟩:=aS K1.o rfl rfl rfl;obtain ⟨sw,r9,rq⟩:=aS K3.o rfl rfl rfl;obtain ⟨ru,rM,rV⟩:=cB K3.o;go_wp2;exact bodyPost_ret (v:=q1.v) (by simp[Lvv,QS.l,Qvv,QS.v,results,Tryz.results53,go_sem,sw,r9,rq]) rfl ⟨_,rfl,(di q1.l 0 R1.o K3.o (by simp[bL,Lvv,QS.l]) (by simp[bA,Lvv,QS.l])),(ay (l:=q1.l) (i:=0) (by omega) sj.o)⟩
theorem z2s (xa ya:Rat)(k:Int)(q1:QS)(q2:QS)(w:World)(hk:decide (k≤0)=false)(h1:KP2 54 xa ya (.int .i64 k))(r1:FQ w q1 xa)(r2:FQ w q2 ya) :
 Calls Tryz.prog 53 #[(QS.v q1),(QS.v q2)] w (RQ w ya):=by
 dsimp only[QS.v];obtain ⟨C1,R1,R2⟩:=ak h1 r1 r2;have hkk:=hk;clear hk h1 r1 r2;go_enter Tryz.func53,Tryz.ntmps53
 go_upto_region 1 with fail
 refine az w [(q1.l.toArray,54),(q2.l.toArray,54),(#[.bool false,.slice none 0 0,.slice none 0 0],54)] rfl ?_;rintro W0 ⟨k1,k2,k3,hb⟩;have u6:=hid (show Below w.heap.size w W0 from hb);obtain ⟨R1,R2⟩:=aP u6.o R1 R2;obtain ⟨K1,K2,K3⟩:=ak k1 k2 k3;clear k1 k2 k3 hb;obtain ⟨w9,wm,wo⟩:=aS K1.o rfl rfl rfl;obtain ⟨wu,ww,si⟩:=aS K2.o rfl rfl rfl;go_wp2_with fail
 with_reducible refine(C1.o _ _ _ R1.o R2.o).mono ?_
 rintro e W1 ⟨rfl,hb⟩;clear w9 wm wo wu ww si;obtain ⟨K2,K3,R2⟩:=bR hb K2 K3 R2;have sj:=hbt u6 hb;clear hb;obtain ⟨wu,ww,si⟩:=aS K2.o rfl rfl rfl;obtain ⟨sw,r9,rq⟩:=aS K3.o rfl rfl rfl;obtain ⟨ru,rM,rV⟩:=cB K3.o;go_wp2;exact bodyPost_ret (v:=q2.v) (by simp[Lvv,QS.l,Qvv,QS.v,results,Tryz.results53,go_sem,sw,r9,rq]) rfl ⟨_,rfl,(di q2.l 0 R2.o K3.o (by simp[bL,Lvv,QS.l]) (by simp[bA,Lvv,QS.l])),(ay (l:=q2.l) (i:=0) (by omega) sj.o)⟩
theorem z3v {x y:Rat}(hx:SmQ 100 x)(hy:SmQ 100 y):KQ2 53 x y (lstQ x y):=by
 intro q0 q1 W r0 r1;have C:=kp2 (z3O x y _ rfl (kg hx (by decide) (by decide)) (kg hy (by decide) (by decide)));unfold lstQ
 by_cases hc:cmpQ x y≤0
 · rw[if_pos hc]
   exact z2r x y _ q0 q1 W (decide_eq_true hc) C r0 r1
 · rw[if_neg hc]
   exact z2s x y _ q0 q1 W (decide_eq_false hc) C r0 r1
theorem z4g (xa ya:Rat)(k:Int)(q1:QS)(q2:QS)(w:World)(hk:decide (0≤k)=true)(h1:KP2 54 xa ya (.int .i64 k))(r1:FQ w q1 xa)(r2:FQ w q2 ya) :
 Calls Tryz.prog 52 #[(QS.v q1),(QS.v q2)] w (RQ w xa):=by
 dsimp only[QS.v];obtain ⟨C1,R1,R2⟩:=ak h1 r1 r2;have hkk:=hk;clear hk h1 r1 r2;go_enter Tryz.func52,Tryz.ntmps52
 go_upto_region 1 with fail
 refine az w [(q1.l.toArray,54),(q2.l.toArray,54),(#[.bool false,.slice none 0 0,.slice none 0 0],54)] rfl ?_;rintro W0 ⟨k1,k2,k3,hb⟩;have u6:=hid (show Below w.heap.size w W0 from hb);obtain ⟨R1,R2⟩:=aP u6.o R1 R2;obtain ⟨K1,K2,K3⟩:=ak k1 k2 k3;clear k1 k2 k3 hb;obtain ⟨w9,wm,wo⟩:=aS K1.o rfl rfl rfl;obtain ⟨wu,ww,si⟩:=aS K2.o rfl rfl rfl;go_wp2_with fail
 with_reducible refine(C1.o _ _ _ R1.o R2.o).mono ?_
 rintro e W1 ⟨rfl,hb⟩;clear w9 wm wo wu ww si;obtain ⟨K1,K3,R1⟩:=bR hb K1 K3 R1;have sj:=hbt u6 hb;clear hb;obtain ⟨w9,wm,wo⟩:=aS K1.o rfl rfl rfl;obtain ⟨sw,r9,rq⟩:=aS K3.o rfl rfl rfl;obtain ⟨ru,rM,rV⟩:=cB K3.o;go_wp2;exact bodyPost_ret (v:=q1.v) (by simp[Lvv,QS.l,Qvv,QS.v,results,Tryz.results52,go_sem,sw,r9,rq]) rfl ⟨_,rfl,(di q1.l 0 R1.o K3.o (by simp[bL,Lvv,QS.l]) (by simp[bA,Lvv,QS.l])),(ay (l:=q1.l) (i:=0) (by omega) sj.o)⟩
theorem z4h (xa ya:Rat)(k:Int)(q1:QS)(q2:QS)(w:World)(hk:decide (0≤k)=false)(h1:KP2 54 xa ya (.int .i64 k))(r1:FQ w q1 xa)(r2:FQ w q2 ya) :
 Calls Tryz.prog 52 #[(QS.v q1),(QS.v q2)] w (RQ w ya):=by
 dsimp only[QS.v];obtain ⟨C1,R1,R2⟩:=ak h1 r1 r2;have hkk:=hk;clear hk h1 r1 r2;go_enter Tryz.func52,Tryz.ntmps52
 go_upto_region 1 with fail
 refine az w [(q1.l.toArray,54),(q2.l.toArray,54),(#[.bool false,.slice none 0 0,.slice none 0 0],54)] rfl ?_;rintro W0 ⟨k1,k2,k3,hb⟩;have u6:=hid (show Below w.heap.size w W0 from hb);obtain ⟨R1,R2⟩:=aP u6.o R1 R2;obtain ⟨K1,K2,K3⟩:=ak k1 k2 k3;clear k1 k2 k3 hb;obtain ⟨w9,wm,wo⟩:=aS K1.o rfl rfl rfl;obtain ⟨wu,ww,si⟩:=aS K2.o rfl rfl rfl;go_wp2_with fail
 with_reducible refine(C1.o _ _ _ R1.o R2.o).mono ?_
 rintro e W1 ⟨rfl,hb⟩;clear w9 wm wo wu ww si;obtain ⟨K2,K3,R2⟩:=bR hb K2 K3 R2;have sj:=hbt u6 hb;clear hb;obtain ⟨wu,ww,si⟩:=aS K2.o rfl rfl rfl;obtain ⟨sw,r9,rq⟩:=aS K3.o rfl rfl rfl;obtain ⟨ru,rM,rV⟩:=cB K3.o;go_wp2;exact bodyPost_ret (v:=q2.v) (by simp[Lvv,QS.l,Qvv,QS.v,results,Tryz.results52,go_sem,sw,r9,rq]) rfl ⟨_,rfl,(di q2.l 0 R2.o K3.o (by simp[bL,Lvv,QS.l]) (by simp[bA,Lvv,QS.l])),(ay (l:=q2.l) (i:=0) (by omega) sj.o)⟩
theorem z5e {x y:Rat}(hx:SmQ 100 x)(hy:SmQ 100 y):KQ2 52 x y (mstQ x y):=by
 intro q0 q1 W r0 r1;have C:=kp2 (z3O x y _ rfl (kg hx (by decide) (by decide)) (kg hy (by decide) (by decide)));unfold mstQ
 by_cases hc:0≤cmpQ x y
 · rw[if_pos hc]
   exact z4g x y _ q0 q1 W (decide_eq_true hc) C r0 r1
 · rw[if_neg hc]
   exact z4h x y _ q0 q1 W (decide_eq_false hc) C r0 r1
theorem hTo {x:Rat}(hx:SmQ 100 x):KP1 65 x (.string (Sq x)):=kp1 (sQTo x _ rfl (hx.mono (by decide)))
theorem z5M {a b c d:Rat}(ha:SmQ 100 a)(hb:SmQ 100 b)(hc:SmQ 100 c)(hd:SmQ 100 d):KII 47 a b c d (lstQ a c) (mstQ b d):=fun p q r s W h1 h2 h3 h4=>z5N a b c d _ _ p q r s W (z3v ha hc) (z5e hb hd) h1 h2 h3 h4
theorem hIo {a b:Rat}(ha:SmQ 100 a)(hb:SmQ 100 b):KI2 34 a b (.agg #[.string (Sq a),.string (Sq b)]):=fun p q W h1 h2=>gTo a b _ _ p q W (hTo ha) (hTo hb) h1 h2
theorem z4i {l u m n:ByteArray}{b1 b2:Bool}{a b c d:Rat}(h1:KIb 46 (.agg #[.string l,.string u]) a b b1)(h2:KIb 46 (.agg #[.string m,.string n]) c d b2)(er:Int)(he:(b1=true∧b2=true∧er=0)∨((b1&&b2)=false∧er=1)):KIB 33 (.agg #[.string l,.string u]) (.agg #[.string m,.string n]) a b c d er:=fun W=>by
 rcases he with⟨rfl,rfl,rfl⟩|⟨hb,rfl⟩
 · exact z2x l u m n a b c d W h1 h2
 · refine z4m l u m n a b c d b1 b2 W ?_ h1 h2
   cases b1 with
   | false=>exact Or.inl rfl
   | true=>exact Or.inr ⟨rfl,by rwa [Bool.true_and]at hb⟩
