/- texts -/
import Derived.Test.YteihfbkaieemdaaGreatDoorCg
import Derived.Test.YteihfbkaieemdaaGreatDoorMz48q
open Go.Proofs.Tryz
set_option maxRecDepth 100000
set_option maxHeartbeats 20000000
open Go.Lib (hid)
namespace Go.Proofs.YteihfbkaieemdaaGreatDoor
open Go.RowKit Go.Gb
set_option linter.unusedSimpArgs false
theorem z1V (xa ya:Rat)(k:Int)(q1:QS)(q2:QS)(w:World)(hk:decide (k≤0)=true)(h1:KP2 54 xa ya (.int .i64 k))(r1:FQ w q1 xa)(r2:FQ w q2 ya) :
 Calls Tryz.prog 53 #[(QS.v q1),(QS.v q2)] w (RQ w xa):=by
 dsimp only[QS.v];obtain ⟨C1,R1,R2⟩:=ak h1 r1 r2;have hkk:=hk;clear hk h1 r1 r2;go_enter func53,ntmps53
 go_upto_region 1 with fail
 refine ay w [(q1.l.toArray,54),(q2.l.toArray,54),(#[.bool false,.slice none 0 0,.slice none 0 0],54)] rfl ?_;rintro W0 ⟨k1,k2,k3,hb⟩;have wu:=hid (show Below w.heap.size w W0 from hb);obtain ⟨R1,R2⟩:=aU wu.o R1 R2;obtain ⟨K1,K2,K3⟩:=ak k1 k2 k3;clear k1 k2 k3 hb;obtain ⟨u6,w9,sw⟩:=aO K1.o rfl rfl rfl;obtain ⟨wm,wo,r9⟩:=aO K2.o rfl rfl rfl;go_wp2_with fail
 with_reducible refine(C1.o _ _ _ R1.o R2.o).mono ?_
 rintro e W1 ⟨rfl,hb⟩;clear u6 w9 sw wm wo r9;obtain ⟨K1,K3,R1⟩:=bP hb K1 K3 R1;have ww:=hbt wu hb;clear hb;obtain ⟨u6,w9,sw⟩:=aO K1.o rfl rfl rfl;obtain ⟨rM,rV,p8⟩:=aO K3.o rfl rfl rfl;obtain ⟨oM,oV,ma⟩:=bZ K3.o;go_wp2;exact bodyPost_ret (v:=q1.v) (by simp[Lvv,QS.l,Qvv,QS.v,results,results53,go_sem,rM,rV,p8]) rfl ⟨_,rfl,(bW q1.l 0 R1.o K3.o (by simp[bQ,Lvv,QS.l]) (by simp[bi,Lvv,QS.l])),(ax (l:=q1.l) (i:=0) (by omega) ww.o)⟩
theorem z1W (xa ya:Rat)(k:Int)(q1:QS)(q2:QS)(w:World)(hk:decide (k≤0)=false)(h1:KP2 54 xa ya (.int .i64 k))(r1:FQ w q1 xa)(r2:FQ w q2 ya) :
 Calls Tryz.prog 53 #[(QS.v q1),(QS.v q2)] w (RQ w ya):=by
 dsimp only[QS.v];obtain ⟨C1,R1,R2⟩:=ak h1 r1 r2;have hkk:=hk;clear hk h1 r1 r2;go_enter func53,ntmps53
 go_upto_region 1 with fail
 refine ay w [(q1.l.toArray,54),(q2.l.toArray,54),(#[.bool false,.slice none 0 0,.slice none 0 0],54)] rfl ?_;rintro W0 ⟨k1,k2,k3,hb⟩;have wu:=hid (show Below w.heap.size w W0 from hb);obtain ⟨R1,R2⟩:=aU wu.o R1 R2;obtain ⟨K1,K2,K3⟩:=ak k1 k2 k3;clear k1 k2 k3 hb;obtain ⟨u6,w9,sw⟩:=aO K1.o rfl rfl rfl;obtain ⟨wm,wo,r9⟩:=aO K2.o rfl rfl rfl;go_wp2_with fail
 with_reducible refine(C1.o _ _ _ R1.o R2.o).mono ?_
 rintro e W1 ⟨rfl,hb⟩;clear u6 w9 sw wm wo r9;obtain ⟨K2,K3,R2⟩:=bP hb K2 K3 R2;have ww:=hbt wu hb;clear hb;obtain ⟨wm,wo,r9⟩:=aO K2.o rfl rfl rfl;obtain ⟨rM,rV,p8⟩:=aO K3.o rfl rfl rfl;obtain ⟨oM,oV,ma⟩:=bZ K3.o;go_wp2;exact bodyPost_ret (v:=q2.v) (by simp[Lvv,QS.l,Qvv,QS.v,results,results53,go_sem,rM,rV,p8]) rfl ⟨_,rfl,(bW q2.l 0 R2.o K3.o (by simp[bQ,Lvv,QS.l]) (by simp[bi,Lvv,QS.l])),(ax (l:=q2.l) (i:=0) (by omega) ww.o)⟩
theorem z4K {x y:Rat}(hx:SmQ 100 x)(hy:SmQ 100 y):KQ2 53 x y (lstQ x y):=by
 intro q0 q1 W r0 r1;have C:=kp2 (z3v x y _ rfl (rX hx (by decide) (by decide)) (rX hy (by decide) (by decide)));unfold lstQ
 by_cases hc:cmpQ x y≤0
 · rw[if_pos hc]
   exact z1V x y _ q0 q1 W (decide_eq_true hc) C r0 r1
 · rw[if_neg hc]
   exact z1W x y _ q0 q1 W (decide_eq_false hc) C r0 r1
theorem z3O (xa ya:Rat)(k:Int)(q1:QS)(q2:QS)(w:World)(hk:decide (0≤k)=true)(h1:KP2 54 xa ya (.int .i64 k))(r1:FQ w q1 xa)(r2:FQ w q2 ya) :
 Calls Tryz.prog 52 #[(QS.v q1),(QS.v q2)] w (RQ w xa):=by
 dsimp only[QS.v];obtain ⟨C1,R1,R2⟩:=ak h1 r1 r2;have hkk:=hk;clear hk h1 r1 r2;go_enter func52,ntmps52
 go_upto_region 1 with fail
 refine ay w [(q1.l.toArray,54),(q2.l.toArray,54),(#[.bool false,.slice none 0 0,.slice none 0 0],54)] rfl ?_;rintro W0 ⟨k1,k2,k3,hb⟩;have wu:=hid (show Below w.heap.size w W0 from hb);obtain ⟨R1,R2⟩:=aU wu.o R1 R2;obtain ⟨K1,K2,K3⟩:=ak k1 k2 k3;clear k1 k2 k3 hb;obtain ⟨u6,w9,sw⟩:=aO K1.o rfl rfl rfl;obtain ⟨wm,wo,r9⟩:=aO K2.o rfl rfl rfl;go_wp2_with fail
 with_reducible refine(C1.o _ _ _ R1.o R2.o).mono ?_
 rintro e W1 ⟨rfl,hb⟩;clear u6 w9 sw wm wo r9;obtain ⟨K1,K3,R1⟩:=bP hb K1 K3 R1;have ww:=hbt wu hb;clear hb;obtain ⟨u6,w9,sw⟩:=aO K1.o rfl rfl rfl;obtain ⟨rM,rV,p8⟩:=aO K3.o rfl rfl rfl;obtain ⟨oM,oV,ma⟩:=bZ K3.o;go_wp2;exact bodyPost_ret (v:=q1.v) (by simp[Lvv,QS.l,Qvv,QS.v,results,results52,go_sem,rM,rV,p8]) rfl ⟨_,rfl,(bW q1.l 0 R1.o K3.o (by simp[bQ,Lvv,QS.l]) (by simp[bi,Lvv,QS.l])),(ax (l:=q1.l) (i:=0) (by omega) ww.o)⟩
theorem z3P (xa ya:Rat)(k:Int)(q1:QS)(q2:QS)(w:World)(hk:decide (0≤k)=false)(h1:KP2 54 xa ya (.int .i64 k))(r1:FQ w q1 xa)(r2:FQ w q2 ya) :
 Calls Tryz.prog 52 #[(QS.v q1),(QS.v q2)] w (RQ w ya):=by
 dsimp only[QS.v];obtain ⟨C1,R1,R2⟩:=ak h1 r1 r2;have hkk:=hk;clear hk h1 r1 r2;go_enter func52,ntmps52
 go_upto_region 1 with fail
 refine ay w [(q1.l.toArray,54),(q2.l.toArray,54),(#[.bool false,.slice none 0 0,.slice none 0 0],54)] rfl ?_;rintro W0 ⟨k1,k2,k3,hb⟩;have wu:=hid (show Below w.heap.size w W0 from hb);obtain ⟨R1,R2⟩:=aU wu.o R1 R2;obtain ⟨K1,K2,K3⟩:=ak k1 k2 k3;clear k1 k2 k3 hb;obtain ⟨u6,w9,sw⟩:=aO K1.o rfl rfl rfl;obtain ⟨wm,wo,r9⟩:=aO K2.o rfl rfl rfl;go_wp2_with fail
 with_reducible refine(C1.o _ _ _ R1.o R2.o).mono ?_
 rintro e W1 ⟨rfl,hb⟩;clear u6 w9 sw wm wo r9;obtain ⟨K2,K3,R2⟩:=bP hb K2 K3 R2;have ww:=hbt wu hb;clear hb;obtain ⟨wm,wo,r9⟩:=aO K2.o rfl rfl rfl;obtain ⟨rM,rV,p8⟩:=aO K3.o rfl rfl rfl;obtain ⟨oM,oV,ma⟩:=bZ K3.o;go_wp2;exact bodyPost_ret (v:=q2.v) (by simp[Lvv,QS.l,Qvv,QS.v,results,results52,go_sem,rM,rV,p8]) rfl ⟨_,rfl,(bW q2.l 0 R2.o K3.o (by simp[bQ,Lvv,QS.l]) (by simp[bi,Lvv,QS.l])),(ax (l:=q2.l) (i:=0) (by omega) ww.o)⟩
theorem z5A {x y:Rat}(hx:SmQ 100 x)(hy:SmQ 100 y):KQ2 52 x y (mstQ x y):=by
 intro q0 q1 W r0 r1;have C:=kp2 (z3v x y _ rfl (rX hx (by decide) (by decide)) (rX hy (by decide) (by decide)));unfold mstQ
 by_cases hc:0≤cmpQ x y
 · rw[if_pos hc]
   exact z3O x y _ q0 q1 W (decide_eq_true hc) C r0 r1
 · rw[if_neg hc]
   exact z3P x y _ q0 q1 W (decide_eq_false hc) C r0 r1
theorem hTo {x:Rat}(hx:SmQ 100 x):KP1 65 x (.string (Sq x)):=kp1 (sQTo x _ rfl (hx.mono (by decide)))
theorem hMul {x y:Rat}(hx:SmQ 40 x)(hy:SmQ 40 y):KQ2 49 x y (x*y):=kq2 (z5i x y _ rfl (glq hx) (glq hy))
theorem hAdd {x y:Rat}(hx:SmQ 40 x)(hy:SmQ 40 y):KQ2 66 x y (x+y):=kq2 (z4C x y _ rfl (glq hx) (glq hy))
theorem hSub {x y:Rat}(hx:SmQ 40 x)(hy:SmQ 40 y):KQ2 67 x y (x-y):=kq2 (z5g x y _ rfl (glq hx) (glq hy))
theorem hInv {x:Rat}(h0:x≠0)(hx:SmQ 40 x):KQ1 70 x x⁻¹:=kq1 (z5j x _ rfl h0 (glq hx))
theorem z4L:KS 50 (.int .i64 0) 0:=ks (fun W=>z4B 0 0 0 rfl (by decide) rfl rfl W)
theorem yu (x:Rat):KI1 48 x x x:=fun q W r=>z5D x q W r
theorem z1X {a b c d:Rat}(ha:SmQ 100 a)(hb:SmQ 100 b)(hc:SmQ 100 c)(hd:SmQ 100 d):KII 47 a b c d (lstQ a c) (mstQ b d):=fun p q r s W h1 h2 h3 h4=>z5E a b c d _ _ p q r s W (z4K ha hc) (z5A hb hd) h1 h2 h3 h4
theorem m80 {x y:Rat}(hx:SmQ 40 x)(hy:SmQ 40 y):SmQ 100 (x*y):=(hx.mul hy).mono (by decide)
theorem z3c {a b k:Rat}(ha:SmQ 40 a)(hb:SmQ 40 b)(hk:SmQ 40 k):KIQ 68 a b k (lstQ (a*k) (b*k)) (mstQ (a*k) (b*k)):=fun p q r W h1 h2 h3 =>
 z4N a b k _ _ _ _ p q r W (hMul ha hk) (yu _) (hMul hb hk) (yu _) (z1X (m80 ha hk) (m80 ha hk) (m80 hb hk) (m80 hb hk)) h1 h2 h3
theorem z3b {a b c d:Rat}(ha:SmQ 40 a)(hb:SmQ 40 b)(hc:SmQ 40 c)(hd:SmQ 40 d):KII 40 a b c d (lstQ (lstQ (a*c) (b*c)) (lstQ (a*d) (b*d))) (mstQ (mstQ (a*c) (b*c)) (mstQ (a*d) (b*d))):=fun p q r s W h1 h2 h3 h4 =>
 z4M a b c d _ _ _ _ _ _ p q r s W (z3c ha hb hc) (z3c ha hb hd) (z1X (kg (m80 ha hc) (m80 hb hc)) (jh (m80 ha hc) (m80 hb hc)) (kg (m80 ha hd) (m80 hb hd)) (jh (m80 ha hd) (m80 hb hd))) h1 h2 h3 h4
theorem z5z {a b c d:Rat}(ha:SmQ 40 a)(hb:SmQ 40 b)(hc:SmQ 40 c)(hd:SmQ 40 d)(c0:c≠0)(d0:d≠0):KII 44 a b c d (lstQ (lstQ (a / c) (b / c)) (lstQ (a / d) (b / d))) (mstQ (mstQ (a / c) (b / c)) (mstQ (a / d) (b / d))):=fun p q r s W h1 h2 h3 h4=>by
 have h:=z5C a b c d _ _ _ _ p q r s W (hInv d0 hd) (hInv c0 hc) (z3b ha hb (hd.inv d0) (hc.inv c0)) h1 h2 h3 h4;rw[← Rat.div_def,← Rat.div_def,← Rat.div_def,← Rat.div_def,z07 (lstQ (a / d) (b / d)),z02 (mstQ (a / d) (b / d))]at h;exact h
theorem hIo {a b:Rat}(ha:SmQ 100 a)(hb:SmQ 100 b):KI2 34 a b (.agg #[.string (Sq a),.string (Sq b)]):=fun p q W h1 h2=>gTo a b _ _ p q W (hTo ha) (hTo hb) h1 h2
theorem z2s (x:Rat):decide (0≤cmpQ x 0)=decide (0≤x):=by
 rcases fK x 0 with⟨h,e⟩|⟨h,e⟩|⟨h,e⟩<;>rw[e,decide_eq_decide]<;>grind
theorem z1U (a b:Rat):KI2 43 a b (.bool (decide (a≤0∧0≤b))):=fun p q W h1 h2=>by
 by_cases h:a≤0
 · refine z3Q a b _ _ _ p q W ((vE a 0).trans (decide_eq_true h)) ((z2s b).trans ?_) (gSgn a) (gSgn b) h1 h2
   rw[decide_eq_decide];exact⟨fun g=>⟨h,g⟩,fun g=>g.2⟩
 · rw[decide_eq_false (fun g=>h g.1)]
   exact z3R a b _ p q W ((vE a 0).trans (decide_eq_false h)) (gSgn a) h1 h2
theorem mI {l u m n:ByteArray}{b1 b2:Bool}{a b c d:Rat}(h1:KIb 46 (.agg #[.string l,.string u]) a b b1)(h2:KIb 46 (.agg #[.string m,.string n]) c d b2)(er:Int)(he:(b1=true∧b2=true∧er=0)∨((b1&&b2)=false∧er=1)):KIB 33 (.agg #[.string l,.string u]) (.agg #[.string m,.string n]) a b c d er:=fun W=>by
 rcases he with⟨rfl,rfl,rfl⟩|⟨hb,rfl⟩
 · exact z1Z l u m n a b c d W h1 h2
 · refine z3X l u m n a b c d b1 b2 W ?_ h1 h2
   cases b1 with
   | false=>exact Or.inl rfl
   | true=>exact Or.inr ⟨rfl,by rwa [Bool.true_and]at hb⟩
theorem f100 {x:Rat}(h:SmQ 100 x):aS x:=h.fit (by decide)
theorem z5u (l u m n:ByteArray)(hl:l.size≤40)(hu:u.size≤40)(hm:m.size≤40)(hn:n.size≤40)(w:World)(hla:La w):∃ s t er,CV w 7 #[.agg #[.string l,.string u],.agg #[.string m,.string n]] (.tuple #[.agg #[.string s,.string t],.int .i64 er])∧CV w 8 #[.agg #[.string l,.string u],.agg #[.string m,.string n]] (.tuple #[.agg #[.string s,.string t],.int .i64 er]):=by
 obtain⟨b1,xa,xb,F1,V1,E1⟩:=pIV l u hl hu;obtain⟨b2,ya,yb,F2,V2,E2⟩:=pIV m n hm hn
 cases b1 with
 | false=>exact⟨_,_,_,z3N l u m n w (fun W hW=>V1 W (hla.on hW)),fun W _=>z3g l u m n xa xb ya yb W (mI F1 F2 1 (Or.inr ⟨Bool.false_and _,rfl⟩))⟩
 | true =>
   cases b2 with
   | false=>exact⟨_,_,_,z3M l u m n w (fun W hW=>V1 W (hla.on hW)) (fun W hW=>V2 W (hla.on hW)),fun W _=>z3g l u m n xa xb ya yb W (mI F1 F2 1 (Or.inr ⟨rfl,rfl⟩))⟩
   | true =>
     obtain⟨rfl,rfl,ha,hb,hab⟩:=E1 rfl;obtain⟨rfl,rfl,hc,hd,hcd⟩:=E2 rfl;have B:=mI F1 F2 0 (Or.inl ⟨rfl,rfl,rfl⟩);have s1:SmQ 100 (xa+ya):=(ha.add hc).mono (by decide);have s2:SmQ 100 (xb+yb):=(hb.add hd).mono (by decide);exact⟨Sq (xa+ya),Sq (xb+yb),0,fun W hW=>iAdd xa xb ya yb _ _ rfl rfl hab hcd (g40 ha) (g40 hb) (g40 hc) (g40 hd) W (hla.on hW),fun W _=>z3Y _ _ _ _ xa xb ya yb _ _ _ _ W B (fun p q r s W h1 h2 h3 h4=>z5B xa xb ya yb _ _ p q r s W (hAdd ha hc) (hAdd hb hd) h1 h2 h3 h4) (hIo s1 s2)⟩
theorem z5r (l u m n:ByteArray)(hl:l.size≤40)(hu:u.size≤40)(hm:m.size≤40)(hn:n.size≤40)(w:World)(hla:La w):∃ s t er,CV w 9 #[.agg #[.string l,.string u],.agg #[.string m,.string n]] (.tuple #[.agg #[.string s,.string t],.int .i64 er])∧CV w 10 #[.agg #[.string l,.string u],.agg #[.string m,.string n]] (.tuple #[.agg #[.string s,.string t],.int .i64 er]):=by
 obtain⟨b1,xa,xb,F1,V1,E1⟩:=pIV l u hl hu;obtain⟨b2,ya,yb,F2,V2,E2⟩:=pIV m n hm hn
 cases b1 with
 | false=>exact⟨_,_,_,z3H l u m n w (fun W hW=>V1 W (hla.on hW)),fun W _=>z3d l u m n xa xb ya yb W (mI F1 F2 1 (Or.inr ⟨Bool.false_and _,rfl⟩))⟩
 | true =>
   cases b2 with
   | false=>exact⟨_,_,_,z3G l u m n w (fun W hW=>V1 W (hla.on hW)) (fun W hW=>V2 W (hla.on hW)),fun W _=>z3d l u m n xa xb ya yb W (mI F1 F2 1 (Or.inr ⟨rfl,rfl⟩))⟩
   | true =>
     obtain⟨rfl,rfl,ha,hb,hab⟩:=E1 rfl;obtain⟨rfl,rfl,hc,hd,hcd⟩:=E2 rfl;have B:=mI F1 F2 0 (Or.inl ⟨rfl,rfl,rfl⟩);have s1:SmQ 100 (xa-yb):=(ha.sub hd).mono (by decide);have s2:SmQ 100 (xb-ya):=(hb.sub hc).mono (by decide);exact⟨Sq (xa-yb),Sq (xb-ya),0,fun W hW=>iSub xa xb ya yb _ _ rfl rfl hab hcd (g40 ha) (g40 hb) (g40 hc) (g40 hd) W (hla.on hW),fun W _=>z3T _ _ _ _ xa xb ya yb _ _ _ _ W B (fun p q r s W h1 h2 h3 h4=>z4O xa xb ya yb _ _ p q r s W (hSub ha hd) (hSub hb hc) h1 h2 h3 h4) (hIo s1 s2)⟩
theorem z5s (l u m n:ByteArray)(hl:l.size≤40)(hu:u.size≤40)(hm:m.size≤40)(hn:n.size≤40)(w:World)(hla:La w):∃ s t er,CV w 11 #[.agg #[.string l,.string u],.agg #[.string m,.string n]] (.tuple #[.agg #[.string s,.string t],.int .i64 er])∧CV w 12 #[.agg #[.string l,.string u],.agg #[.string m,.string n]] (.tuple #[.agg #[.string s,.string t],.int .i64 er]):=by
 obtain⟨b1,xa,xb,F1,V1,E1⟩:=pIV l u hl hu;obtain⟨b2,ya,yb,F2,V2,E2⟩:=pIV m n hm hn
 cases b1 with
 | false=>exact⟨_,_,_,z3J l u m n w (fun W hW=>V1 W (hla.on hW)),fun W _=>z3e l u m n xa xb ya yb W (mI F1 F2 1 (Or.inr ⟨Bool.false_and _,rfl⟩))⟩
 | true =>
   cases b2 with
   | false=>exact⟨_,_,_,z3I l u m n w (fun W hW=>V1 W (hla.on hW)) (fun W hW=>V2 W (hla.on hW)),fun W _=>z3e l u m n xa xb ya yb W (mI F1 F2 1 (Or.inr ⟨rfl,rfl⟩))⟩
   | true =>
     obtain⟨rfl,rfl,ha,hb,hab⟩:=E1 rfl;obtain⟨rfl,rfl,hc,hd,hcd⟩:=E2 rfl;have B:=mI F1 F2 0 (Or.inl ⟨rfl,rfl,rfl⟩);have s1:SmQ 100 (lstQ (lstQ (xa*ya) (xb*ya)) (lstQ (xa*yb) (xb*yb))):=kg (kg (m80 ha hc) (m80 hb hc)) (kg (m80 ha hd) (m80 hb hd));have s2:SmQ 100 (mstQ (mstQ (xa*ya) (xb*ya)) (mstQ (xa*yb) (xb*yb))):=jh (jh (m80 ha hc) (m80 hb hc)) (jh (m80 ha hd) (m80 hb hd));refine⟨Sq (lstQ (lstQ (xa*ya) (xb*ya)) (lstQ (xa*yb) (xb*yb))),Sq (mstQ (mstQ (xa*ya) (xb*ya)) (mstQ (xa*yb) (xb*yb))),0,fun W hW=>?_,fun W _=>z3U _ _ _ _ xa xb ya yb _ _ _ _ W B (z3b ha hb hc hd) (hIo s1 s2)⟩;have h:=iMul xa xb ya yb _ _ _ _ rfl rfl rfl rfl hab hcd (g40 ha) (g40 hb) (g40 hc) (g40 hd) (f100 (m80 ha hc)) (f100 (m80 ha hd)) (f100 (m80 hb hc)) (f100 (m80 hb hd)) W (hla.on hW);rw[z0w,z0x]at h;exact h
theorem z5t (l u m n:ByteArray)(hl:l.size≤40)(hu:u.size≤40)(hm:m.size≤40)(hn:n.size≤40)(w:World)(hla:La w):∃ s t er,CV w 13 #[.agg #[.string l,.string u],.agg #[.string m,.string n]] (.tuple #[.agg #[.string s,.string t],.int .i64 er])∧CV w 14 #[.agg #[.string l,.string u],.agg #[.string m,.string n]] (.tuple #[.agg #[.string s,.string t],.int .i64 er]):=by
 obtain⟨b1,xa,xb,F1,V1,E1⟩:=pIV l u hl hu;obtain⟨b2,ya,yb,F2,V2,E2⟩:=pIV m n hm hn
 cases b1 with
 | false=>exact⟨_,_,_,z3L l u m n w (fun W hW=>V1 W (hla.on hW)),fun W _=>z3f l u m n xa xb ya yb W (mI F1 F2 1 (Or.inr ⟨Bool.false_and _,rfl⟩))⟩
 | true =>
   cases b2 with
   | false=>exact⟨_,_,_,z3K l u m n w (fun W hW=>V1 W (hla.on hW)) (fun W hW=>V2 W (hla.on hW)),fun W _=>z3f l u m n xa xb ya yb W (mI F1 F2 1 (Or.inr ⟨rfl,rfl⟩))⟩
   | true =>
     obtain⟨rfl,rfl,ha,hb,hab⟩:=E1 rfl;obtain⟨rfl,rfl,hc,hd,hcd⟩:=E2 rfl;have B:=mI F1 F2 0 (Or.inl ⟨rfl,rfl,rfl⟩)
     cases hz:decide (ya≤0∧0≤yb) with
     | true=>exact⟨_,_,_,fun W hW=>z1R xa xb ya yb hab hcd hz (g40 ha) (g40 hb) (g40 hc) (g40 hd) W (hla.on hW),fun W _=>z4P _ _ _ _ xa xb ya yb W B (hz▸z1U ya yb)⟩
     | false =>
       have hz2:=of_decide_eq_false hz;have c0:ya≠0:=by rintro rfl;exact hz2 ⟨by grind,hcd⟩
       have d0:yb≠0:=by rintro rfl;exact hz2 ⟨hcd,by grind⟩
       have q:∀ {x y:Rat},SmQ 40 x→SmQ 40 y→y≠0→SmQ 100 (x / y):=fun hx hy h0=>(hx.div hy h0).mono (by decide);have s1:SmQ 100 (lstQ (lstQ (xa / ya) (xb / ya)) (lstQ (xa / yb) (xb / yb))):=kg (kg (q ha hc c0) (q hb hc c0)) (kg (q ha hd d0) (q hb hd d0));have s2:SmQ 100 (mstQ (mstQ (xa / ya) (xb / ya)) (mstQ (xa / yb) (xb / yb))):=jh (jh (q ha hc c0) (q hb hc c0)) (jh (q ha hd d0) (q hb hd d0));refine⟨Sq (lstQ (lstQ (xa / ya) (xb / ya)) (lstQ (xa / yb) (xb / yb))),Sq (mstQ (mstQ (xa / ya) (xb / ya)) (mstQ (xa / yb) (xb / yb))),0,fun W hW=>?_,fun W _=>z3W _ _ _ _ xa xb ya yb _ _ _ _ W B (hz▸z1U ya yb) (z5z ha hb hc hd c0 d0) (hIo s1 s2)⟩;have h:=iDiv xa xb ya yb _ _ _ _ rfl rfl rfl rfl hab hcd hz (g40 ha) (g40 hb) (g40 hc) (g40 hd) (f100 (q ha hc c0)) (f100 (q ha hd d0)) (f100 (q hb hc c0)) (f100 (q hb hd d0)) W (hla.on hW);rw[z0w,z0x]at h;exact h
theorem z2S:SmQ 100 (0:Rat):=⟨by show Sm 100 0;unfold Sm;decide,by show Sm 100 1;unfold Sm;decide⟩
theorem z1D (l u:ByteArray)(hl:l.size≤40)(hu:u.size≤40)(w:World)(hla:La w):∃ s t er,CV w 15 #[.agg #[.string l,.string u]] (.tuple #[.agg #[.string s,.string t],.int .i64 er])∧CV w 16 #[.agg #[.string l,.string u]] (.tuple #[.agg #[.string s,.string t],.int .i64 er]):=by
 obtain⟨b1,xa,xb,F1,V1,E1⟩:=pIV l u hl hu
 cases b1 with
 | false=>exact⟨_,_,_,z0e l u w (fun W hW=>V1 W (hla.on hW)),fun W _=>z0l l u xa xb W F1⟩
 | true =>
   obtain⟨rfl,rfl,ha,hb,hab⟩:=E1 rfl;have p1:=m80 ha ha;have p2:=m80 hb hb
   cases hz:decide (xa≤0∧0≤xb) with
   | true =>
     refine⟨Sq 0,Sq (mstQ (xa*xa) (xb*xb)),0,fun W hW=>?_,fun W _=>nR _ _ xa xb _ _ _ _ 0 _ _ _ _ true W F1 (hMul ha ha) (yu _) (hMul hb hb) (yu _) (z1X p1 p1 p2 p2) (hz▸z1U xa xb) z4L (hIo z2S (jh p1 p2)) (hIo (kg p1 p2) (jh p1 p2))⟩;have h:=uR xa xb _ _ rfl rfl hab (g40 ha) (g40 hb) (f100 p1) (f100 p2) W (hla.on hW);rw[z3u (of_decide_eq_true hz)]at h;exact h
   | false =>
     refine⟨Sq (lstQ (xa*xa) (xb*xb)),Sq (mstQ (xa*xa) (xb*xb)),0,fun W hW=>?_,fun W _=>nR _ _ xa xb _ _ _ _ 0 _ _ _ _ false W F1 (hMul ha ha) (yu _) (hMul hb hb) (yu _) (z1X p1 p1 p2 p2) (hz▸z1U xa xb) z4L (hIo z2S (jh p1 p2)) (hIo (kg p1 p2) (jh p1 p2))⟩;have h:=uR xa xb _ _ rfl rfl hab (g40 ha) (g40 hb) (f100 p1) (f100 p2) W (hla.on hW);rw[z4x (of_decide_eq_false hz)]at h;exact h
open Go.Lib (hid)
theorem z1L (l u m n:ByteArray)(w₀:World)  (hla:La w₀)(sa:40<l.size∨40<u.size∨40<m.size∨40<n.size) :
 CV w₀ 3 #[.agg #[.string l,.string u],.agg #[.string m,.string n]] (.bool true):=by
 intro w hw;have HT:=hid (hla.on hw);have SA:=hid sa;clear hla sa hw;go_enter func3,ntmps3
 go_upto_region 1 with fail
 refine ay w [(#[.string l,.string u],24),(#[.string m,.string n],24)] rfl ?_;rintro W0 ⟨k1,k2,hb⟩;have wu:=hid (show Below w.heap.size w W0 from hb);have K1:=hid k1;have K2:=hid k2;clear k1 k2 hb;go_wp2_with fail
 with_reducible refine((yZ _ (HT.o.on wu.o))).mono ?_
 rintro e W1 ⟨rfl,hb⟩;obtain ⟨K1,K2⟩:=aU hb K1 K2;have ww:=hbt wu hb;clear hb;obtain ⟨u6,w9⟩:=av K1.o rfl rfl;obtain ⟨wm,wo⟩:=av K2.o rfl rfl;go_wp2_with fail
 have hb:=u7 W1 (.cells #[.string l,.string u,.string m,.string n] 24);have k3:=SBk.new W1 #[.string l,.string u,.string m,.string n] 24;generalize W1.alloc (.cells #[.string l,.string u,.string m,.string n] 24)=W2 at *;have mf:=hbt ww hb;have K3:=hid k3;clear k3 hb;with_reducible refine((yT _ l u m n _ SA.o K3.o.lt ⟨K3.o.cell (i:=0) rfl,K3.o.cell (i:=1) rfl,K3.o.cell (i:=2) rfl,K3.o.cell (i:=3) rfl⟩)).mono ?_
 rintro e W3 ⟨rfl,hb⟩;clear u6 w9 wm wo;have pq:=hbt mf hb;clear hb;go_wp2_with fail
 with_reducible refine((yZ _ (HT.o.on pq.o))).mono ?_
 rintro e W4 ⟨rfl,hb⟩;have ol:=hbt pq hb;clear hb;go_wp2;exact bodyPost_ret (v:=.bool true) (by simp[results,results3,go_sem]) rfl ⟨rfl,ol.o⟩
theorem z3F (l u m n:ByteArray)(s0 t0:ByteArray)(e0:Int)(s1 t1:ByteArray)(e1:Int)(s2 t2:ByteArray)(e2:Int)(s3 t3:ByteArray)(e3:Int)(s4 t4:ByteArray)(e4:Int)(w₀:World)(h1:CV w₀ 7 #[.agg #[.string l,.string u],.agg #[.string m,.string n]] (.tuple #[.agg #[.string s0,.string t0],.int .i64 e0]))(h2:CV w₀ 8 #[.agg #[.string l,.string u],.agg #[.string m,.string n]] (.tuple #[.agg #[.string s0,.string t0],.int .i64 e0]))(h3:CV w₀ 9 #[.agg #[.string l,.string u],.agg #[.string m,.string n]] (.tuple #[.agg #[.string s1,.string t1],.int .i64 e1]))(h4:CV w₀ 10 #[.agg #[.string l,.string u],.agg #[.string m,.string n]] (.tuple #[.agg #[.string s1,.string t1],.int .i64 e1]))(h5:CV w₀ 11 #[.agg #[.string l,.string u],.agg #[.string m,.string n]] (.tuple #[.agg #[.string s2,.string t2],.int .i64 e2]))(h6:CV w₀ 12 #[.agg #[.string l,.string u],.agg #[.string m,.string n]] (.tuple #[.agg #[.string s2,.string t2],.int .i64 e2]))(h7:CV w₀ 13 #[.agg #[.string l,.string u],.agg #[.string m,.string n]] (.tuple #[.agg #[.string s3,.string t3],.int .i64 e3]))(h8:CV w₀ 14 #[.agg #[.string l,.string u],.agg #[.string m,.string n]] (.tuple #[.agg #[.string s3,.string t3],.int .i64 e3]))(h9:CV w₀ 15 #[.agg #[.string l,.string u]] (.tuple #[.agg #[.string s4,.string t4],.int .i64 e4]))(h10:CV w₀ 16 #[.agg #[.string l,.string u]] (.tuple #[.agg #[.string s4,.string t4],.int .i64 e4]))(hla:La w₀)(sa:(l.size≤40∧u.size≤40)∧m.size≤40∧n.size≤40) :
 CV w₀ 3 #[.agg #[.string l,.string u],.agg #[.string m,.string n]] (.bool true):=by
 intro w hw;obtain ⟨C1,C2,C3,C4,C5,C6,C7,C8,C9⟩:=d9 (h1.mono hw) (h2.mono hw) (h3.mono hw) (h4.mono hw) (h5.mono hw) (h6.mono hw) (h7.mono hw) (h8.mono hw) (h9.mono hw);obtain ⟨C10,HT,SA⟩:=ak (h10.mono hw) (hla.on hw) sa;clear hla sa h1 h2 h3 h4 h5 h6 h7 h8 h9 h10 hw;go_enter func3,ntmps3
 go_upto_region 1 with fail
 refine ay w [(#[.string l,.string u],24),(#[.string m,.string n],24)] rfl ?_;rintro W0 ⟨k1,k2,hb⟩;have wu:=hid (show Below w.heap.size w W0 from hb);have K1:=hid k1;have K2:=hid k2;clear k1 k2 hb;go_wp2_with fail
 with_reducible refine((yZ _ (HT.o.on wu.o))).mono ?_
 rintro e W1 ⟨rfl,hb⟩;obtain ⟨K1,K2⟩:=aU hb K1 K2;have ww:=hbt wu hb;clear hb;obtain ⟨u6,w9⟩:=av K1.o rfl rfl;obtain ⟨wm,wo⟩:=av K2.o rfl rfl;go_wp2_with fail
 have hb:=u7 W1 (.cells #[.string l,.string u,.string m,.string n] 24);have k3:=SBk.new W1 #[.string l,.string u,.string m,.string n] 24;generalize W1.alloc (.cells #[.string l,.string u,.string m,.string n] 24)=W2 at *;obtain ⟨K1,K2⟩:=aU hb K1 K2;have mf:=hbt ww hb;have K3:=hid k3;clear k3 hb;with_reducible refine((uz _ l u m n _ SA.o.1 SA.o.2 K3.o.lt ⟨K3.o.cell (i:=0) rfl,K3.o.cell (i:=1) rfl,K3.o.cell (i:=2) rfl,K3.o.cell (i:=3) rfl⟩)).mono ?_
 rintro e W3 ⟨rfl,hb⟩;clear u6 w9 wm wo;obtain ⟨K1,K2,K3⟩:=bP hb K1 K2 K3;have pq:=hbt mf hb;clear hb;obtain ⟨u6,w9⟩:=av K1.o rfl rfl;obtain ⟨wm,wo⟩:=av K2.o rfl rfl;go_wp2_with fail
 with_reducible refine(C1.o _ pq.o).mono ?_
 rintro e W4 ⟨rfl,hb⟩;clear u6 w9 wm wo;obtain ⟨K1,K2,K3⟩:=bP hb K1 K2 K3;have ol:=hbt pq hb;clear hb;go_upto_region 4 with fail
 refine ay W4 [(#[.string s0,.string t0],24)] rfl ?_;have L1:=K1.o.lt;have L2:=K2.o.lt;have L3:=K3.o.lt;have L4:=ol.o.size;rintro W5 ⟨k4,hb⟩;have hb:Below W4.heap.size W4 W5:=hb;obtain ⟨K1,K2,K3⟩:=bP hb K1 K2 K3;have mi:=hbt ol hb;have K4:=hid k4;clear k4 hb;obtain ⟨u6,w9⟩:=av K1.o rfl rfl;obtain ⟨wm,wo⟩:=av K2.o rfl rfl;go_wp2_with fail
 with_reducible refine(C2.o _ mi.o).mono ?_
 rintro e W6 ⟨rfl,hb⟩;clear u6 w9 wm wo;obtain ⟨K1,K2,K3,K4⟩:=bF hb K1 K2 K3 K4;have l5:=hbt mi hb;clear hb;go_upto_region 5 with fail
 refine ay W6 [(#[.string s0,.string t0],24)] rfl ?_;have L5:=K1.o.lt;have L6:=K2.o.lt;have L7:=K3.o.lt;have L8:=K4.o.lt;have L9:=l5.o.size;rintro W7 ⟨k5,hb⟩;have hb:Below W6.heap.size W6 W7:=hb;obtain ⟨K1,K2,K3,K4⟩:=bF hb K1 K2 K3 K4;have l6:=hbt l5 hb;have K5:=hid k5;clear k5 hb;obtain ⟨u6,w9⟩:=av K1.o rfl rfl;obtain ⟨wm,wo⟩:=av K2.o rfl rfl;go_wp2_with fail
 with_reducible refine(C3.o _ l6.o).mono ?_
 rintro e W8 ⟨rfl,hb⟩;clear u6 w9 wm wo;obtain ⟨K1,K2,K3,K4,K5⟩:=eH hb K1 K2 K3 K4 K5;have lg:=hbt l6 hb;clear hb;go_upto_region 6 with fail
 refine ay W8 [(#[.string s1,.string t1],24)] rfl ?_;have L10:=K1.o.lt;have L11:=K2.o.lt;have L12:=K3.o.lt;have L13:=K4.o.lt;have L14:=K5.o.lt;have L15:=lg.o.size;rintro W9 ⟨k6,hb⟩;have hb:Below W8.heap.size W8 W9:=hb;obtain ⟨K1,K2,K3,K4,K5⟩:=eH hb K1 K2 K3 K4 K5;have lv:=hbt lg hb;have K6:=hid k6;clear k6 hb;obtain ⟨u6,w9⟩:=av K1.o rfl rfl;obtain ⟨wm,wo⟩:=av K2.o rfl rfl;go_wp2_with fail
 with_reducible refine(C4.o _ lv.o).mono ?_
 rintro e W10 ⟨rfl,hb⟩;clear u6 w9 wm wo;obtain ⟨K1,K2,K3,K4,K5,K6⟩:=iA hb K1 K2 K3 K4 K5 K6;have kz:=hbt lv hb;clear hb;go_upto_region 7 with fail
 refine ay W10 [(#[.string s1,.string t1],24)] rfl ?_;have L16:=K1.o.lt;have L17:=K2.o.lt;have L18:=K3.o.lt;have L19:=K4.o.lt;have L20:=K5.o.lt;have L21:=K6.o.lt;have L22:=kz.o.size;rintro W11 ⟨k7,hb⟩;have hb:Below W10.heap.size W10 W11:=hb;obtain ⟨K1,K2,K3,K4,K5,K6⟩:=iA hb K1 K2 K3 K4 K5 K6;have kM:=hbt kz hb;have K7:=hid k7;clear k7 hb;obtain ⟨u6,w9⟩:=av K1.o rfl rfl;obtain ⟨wm,wo⟩:=av K2.o rfl rfl;go_wp2_with fail
 with_reducible refine(C5.o _ kM.o).mono ?_
 rintro e W12 ⟨rfl,hb⟩;clear u6 w9 wm wo;obtain ⟨K1,K2,K3,K4,K5,K6,K7⟩:=eZ hb K1 K2 K3 K4 K5 K6 K7;have kV:=hbt kM hb;clear hb;go_upto_region 8 with fail
 refine ay W12 [(#[.string s2,.string t2],24)] rfl ?_;have L23:=K1.o.lt;have L24:=K2.o.lt;have L25:=K3.o.lt;have L26:=K4.o.lt;have L27:=K5.o.lt;have L28:=K6.o.lt;have L29:=K7.o.lt;have L30:=kV.o.size;rintro W13 ⟨k8,hb⟩;have hb:Below W12.heap.size W12 W13:=hb;obtain ⟨K1,K2,K3,K4,K5,K6,K7⟩:=eZ hb K1 K2 K3 K4 K5 K6 K7;have gy:=hbt kV hb;have K8:=hid k8;clear k8 hb;obtain ⟨u6,w9⟩:=av K1.o rfl rfl;obtain ⟨wm,wo⟩:=av K2.o rfl rfl;go_wp2_with fail
 with_reducible refine(C6.o _ gy.o).mono ?_
 rintro e W14 ⟨rfl,hb⟩;clear u6 w9 wm wo;obtain ⟨K1,K2,K3,K4,K5,K6,K7,K8⟩:=xh hb K1 K2 K3 K4 K5 K6 K7 K8;have gF:=hbt gy hb;clear hb;go_upto_region 9 with fail
 refine ay W14 [(#[.string s2,.string t2],24)] rfl ?_;have L31:=K1.o.lt;have L32:=K2.o.lt;have L33:=K3.o.lt;have L34:=K4.o.lt;have L35:=K5.o.lt;have L36:=K6.o.lt;have L37:=K7.o.lt;have L38:=K8.o.lt;have L39:=gF.o.size;rintro W15 ⟨k9,hb⟩;have hb:Below W14.heap.size W14 W15:=hb;obtain ⟨K1,K2,K3,K4,K5,K6,K7,K8⟩:=xh hb K1 K2 K3 K4 K5 K6 K7 K8;have fq:=hbt gF hb;have K9:=hid k9;clear k9 hb;obtain ⟨u6,w9⟩:=av K1.o rfl rfl;obtain ⟨wm,wo⟩:=av K2.o rfl rfl;go_wp2_with fail
 with_reducible refine(C7.o _ fq.o).mono ?_
 rintro e W16 ⟨rfl,hb⟩;clear u6 w9 wm wo;obtain ⟨K1,K2,K3,K4,K5,K6,K7,K8,K9⟩:=iy hb K1 K2 K3 K4 K5 K6 K7 K8 K9;have fQ:=hbt fq hb;clear hb;go_upto_region 10 with fail
 refine ay W16 [(#[.string s3,.string t3],24)] rfl ?_;have L40:=K1.o.lt;have L41:=K2.o.lt;have L42:=K3.o.lt;have L43:=K4.o.lt;have L44:=K5.o.lt;have L45:=K6.o.lt;have L46:=K7.o.lt;have L47:=K8.o.lt;have L48:=K9.o.lt;have L49:=fQ.o.size;rintro W17 ⟨k10,hb⟩;have hb:Below W16.heap.size W16 W17:=hb;obtain ⟨K1,K2,K3,K4,K5,K6,K7,K8,K9⟩:=iy hb K1 K2 K3 K4 K5 K6 K7 K8 K9;have ed:=hbt fQ hb;have K10:=hid k10;clear k10 hb;obtain ⟨u6,w9⟩:=av K1.o rfl rfl;obtain ⟨wm,wo⟩:=av K2.o rfl rfl;go_wp2_with fail
 with_reducible refine(C8.o _ ed.o).mono ?_
 rintro e W18 ⟨rfl,hb⟩;clear u6 w9 wm wo;obtain ⟨K1,K2,K3,K4,K5,K6,K7,K8,K9⟩:=iy hb K1 K2 K3 K4 K5 K6 K7 K8 K9;have K10:=hid (K10.o.below hb);have dn:=hbt ed hb;clear hb;go_upto_region 11 with fail
 refine ay W18 [(#[.string s3,.string t3],24)] rfl ?_;have L50:=K1.o.lt;have L51:=K2.o.lt;have L52:=K3.o.lt;have L53:=K4.o.lt;have L54:=K5.o.lt;have L55:=K6.o.lt;have L56:=K7.o.lt;have L57:=K8.o.lt;have L58:=K9.o.lt;have L59:=K10.o.lt;have L60:=dn.o.size;rintro W19 ⟨k11,hb⟩;have hb:Below W18.heap.size W18 W19:=hb;obtain ⟨K1,K2,K3,K4,K5,K6,K7,K8,K9⟩:=iy hb K1 K2 K3 K4 K5 K6 K7 K8 K9;have K10:=hid (K10.o.below hb);have dx:=hbt dn hb;have K11:=hid k11;clear k11 hb;obtain ⟨u6,w9⟩:=av K1.o rfl rfl;go_wp2_with fail
 with_reducible refine(C9.o _ dx.o).mono ?_
 rintro e W20 ⟨rfl,hb⟩;clear u6 w9;obtain ⟨K1,K2,K3,K4,K5,K6,K7,K8,K9⟩:=iy hb K1 K2 K3 K4 K5 K6 K7 K8 K9;obtain ⟨K10,K11⟩:=aU hb K10 K11;have dz:=hbt dx hb;clear hb;go_upto_region 12 with fail
 refine ay W20 [(#[.string s4,.string t4],24)] rfl ?_;have L61:=K1.o.lt;have L62:=K2.o.lt;have L63:=K3.o.lt;have L64:=K4.o.lt;have L65:=K5.o.lt;have L66:=K6.o.lt;have L67:=K7.o.lt;have L68:=K8.o.lt;have L69:=K9.o.lt;have L70:=K10.o.lt;have L71:=K11.o.lt;have L72:=dz.o.size;rintro W21 ⟨k12,hb⟩;have hb:Below W20.heap.size W20 W21:=hb;obtain ⟨K1,K2,K3,K4,K5,K6,K7,K8,K9⟩:=iy hb K1 K2 K3 K4 K5 K6 K7 K8 K9;obtain ⟨K10,K11⟩:=aU hb K10 K11;have dX:=hbt dz hb;have K12:=hid k12;clear k12 hb;obtain ⟨u6,w9⟩:=av K1.o rfl rfl;go_wp2_with fail
 with_reducible refine(C10.o _ dX.o).mono ?_
 rintro e W22 ⟨rfl,hb⟩;clear u6 w9;obtain ⟨K1,K2,K3,K4,K5,K6,K7,K8,K9⟩:=iy hb K1 K2 K3 K4 K5 K6 K7 K8 K9;obtain ⟨K10,K11,K12⟩:=bP hb K10 K11 K12;have dY:=hbt dX hb;clear hb;go_upto_region 13 with fail
 refine ay W22 [(#[.string s4,.string t4],24)] rfl ?_;have L73:=K1.o.lt;have L74:=K2.o.lt;have L75:=K3.o.lt;have L76:=K4.o.lt;have L77:=K5.o.lt;have L78:=K6.o.lt;have L79:=K7.o.lt;have L80:=K8.o.lt;have L81:=K9.o.lt;have L82:=K10.o.lt;have L83:=K11.o.lt;have L84:=K12.o.lt;have L85:=dY.o.size;rintro W23 ⟨k13,hb⟩;have hb:Below W22.heap.size W22 W23:=hb;obtain ⟨K4,K5,K6,K7,K8,K9,K10,K11,K12⟩:=iy hb K4 K5 K6 K7 K8 K9 K10 K11 K12;have cO:=hbt dY hb;have K13:=hid k13;clear k13 hb;obtain ⟨bg,bn⟩:=av K4.o rfl rfl;obtain ⟨bq,bu⟩:=av K5.o rfl rfl;obtain ⟨bv,bz⟩:=av K6.o rfl rfl;obtain ⟨bM,bV⟩:=av K7.o rfl rfl;obtain ⟨af,au⟩:=av K8.o rfl rfl;obtain ⟨u00,u01⟩:=av K9.o rfl rfl;obtain ⟨u02,u03⟩:=av K10.o rfl rfl;obtain ⟨u04,u05⟩:=av K11.o rfl rfl;obtain ⟨u06,u07⟩:=av K12.o rfl rfl;obtain ⟨u08,u09⟩:=av K13.o rfl rfl;go_wp2;exact bodyPost_ret (v:=.bool true) (by simp[results,results3,go_sem]) rfl ⟨rfl,cO.o⟩
theorem oH (l u m n:ByteArray)(w:World)(hl:La w) :
 CR 3 #[.agg #[.string l,.string u],.agg #[.string m,.string n]] w (.bool true):=by
 by_cases h1:40<l.size∨40<u.size∨40<m.size∨40<n.size
 · exact(z1L l u m n w hl h1).at
 · have h2:(l.size≤40∧u.size≤40)∧m.size≤40∧n.size≤40:=by omega
   obtain⟨s0,t0,e0,k1,k2⟩:=z5u l u m n (by omega) (by omega) (by omega) (by omega) w hl;obtain⟨s1,t1,e1,k3,k4⟩:=z5r l u m n (by omega) (by omega) (by omega) (by omega) w hl;obtain⟨s2,t2,e2,k5,k6⟩:=z5s l u m n (by omega) (by omega) (by omega) (by omega) w hl;obtain⟨s3,t3,e3,k7,k8⟩:=z5t l u m n (by omega) (by omega) (by omega) (by omega) w hl;obtain⟨s4,t4,e4,k9,k10⟩:=z1D l u (by omega) (by omega) w hl;exact(z3F l u m n s0 t0 e0 s1 t1 e1 s2 t2 e2 s3 t3 e3 s4 t4 e4 w k1 k2 k3 k4 k5 k6 k7 k8 k9 k10 hl h2).at
