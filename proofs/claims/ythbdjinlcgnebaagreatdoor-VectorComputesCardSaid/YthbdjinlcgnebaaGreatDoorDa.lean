/- texts -/
import Derived.Test.YthbdjinlcgnebaaGreatDoorMz34q
open Go.Proofs.Tryz
set_option maxRecDepth 100000
set_option maxHeartbeats 20000000
open Go.Lib (hid)
namespace Go.Proofs.YthbdjinlcgnebaaGreatDoor
open Go.RowKit Go.Gb
set_option linter.unusedSimpArgs false
abbrev RVV (W:World) (xa xb xc ya yb yc:Rat) (er:Int):Ending→World→Prop:=fun e w'=>∃ qa qb qc qd qe qf:QS,e=.returned (.tuple #[.agg #[.bool qa.b,.slice qa.a qa.n qa.c,.slice qa.e qa.m qa.d,.bool qb.b,.slice qb.a qb.n qb.c,.slice qb.e qb.m qb.d,.bool qc.b,.slice qc.a qc.n qc.c,.slice qc.e qc.m qc.d],.agg #[.bool qd.b,.slice qd.a qd.n qd.c,.slice qd.e qd.m qd.d,.bool qe.b,.slice qe.a qe.n qe.c,.slice qe.e qe.m qe.d,.bool qf.b,.slice qf.a qf.n qf.c,.slice qf.e qf.m qf.d],.int .i64 er])∧FQ w' qa xa∧FQ w' qb xb∧FQ w' qc xc∧FQ w' qd ya∧FQ w' qe yb∧FQ w' qf yc∧Below W.heap.size W w'
abbrev KVV (f:Nat) (v0 v1:Value) (xa xb xc ya yb yc:Rat) (er:Int):Prop:=∀ W:World,Calls Tryz.prog f #[v0,v1] W (RVV W xa xb xc ya yb yc er)
abbrev KTj (f:Nat) (x0a x0b x0c x1:Rat) (xa xb xc:Rat):Prop:=∀ (q0a q0b q0c q1:QS) (W:World),FQ W q0a x0a→FQ W q0b x0b→FQ W q0c x0c→FQ W q1 x1→Calls Tryz.prog f #[.agg #[.bool q0a.b,.slice q0a.a q0a.n q0a.c,.slice q0a.e q0a.m q0a.d,.bool q0b.b,.slice q0b.a q0b.n q0b.c,.slice q0b.e q0b.m q0b.d,.bool q0c.b,.slice q0c.a q0c.n q0c.c,.slice q0c.e q0c.m q0c.d],.agg #[.bool q1.b,.slice q1.a q1.n q1.c,.slice q1.e q1.m q1.d]] W (Rv3 W xa xb xc)
abbrev KTr (f:Nat) (x0a x0b x0c x1a x1b x1c x2a x2b x2c:Rat) (z:Rat):Prop:=∀ (q0a q0b q0c q1a q1b q1c q2a q2b q2c:QS) (W:World),FQ W q0a x0a→FQ W q0b x0b→FQ W q0c x0c→FQ W q1a x1a→FQ W q1b x1b→FQ W q1c x1c→FQ W q2a x2a→FQ W q2b x2b→FQ W q2c x2c→Calls Tryz.prog f #[.agg #[.bool q0a.b,.slice q0a.a q0a.n q0a.c,.slice q0a.e q0a.m q0a.d,.bool q0b.b,.slice q0b.a q0b.n q0b.c,.slice q0b.e q0b.m q0b.d,.bool q0c.b,.slice q0c.a q0c.n q0c.c,.slice q0c.e q0c.m q0c.d],.agg #[.bool q1a.b,.slice q1a.a q1a.n q1a.c,.slice q1a.e q1a.m q1a.d,.bool q1b.b,.slice q1b.a q1b.n q1b.c,.slice q1b.e q1b.m q1b.d,.bool q1c.b,.slice q1c.a q1c.n q1c.c,.slice q1c.e q1c.m q1c.d],.agg #[.bool q2a.b,.slice q2a.a q2a.n q2a.c,.slice q2a.e q2a.m q2a.d,.bool q2b.b,.slice q2b.a q2b.n q2b.c,.slice q2b.e q2b.m q2b.d,.bool q2c.b,.slice q2c.a q2c.n q2c.c,.slice q2c.e q2c.m q2c.d]] W (RQ W z)
theorem sW (x y z:ByteArray)(xa xb xc:Rat)(b1 b2 b3:Bool)  (w:World)  (h1:KSb 37 (.string x) xa b1)(h2:KSb 37 (.string y) xb b2)(h3:KSb 37 (.string z) xc b3)  :
 Calls Tryz.prog 36 #[.agg #[.string x,.string y,.string z]] w (RVb w xa xb xc (b1&&b2&&b3)):=by
 cases b1<;>cases b2<;>(
  obtain ⟨C1,C2,C3⟩:=ae h1 h2 h3;clear h1 h2 h3;go_enter func36,ntmps36
  go_upto_region 1 with fail
  refine ak w [(#[.string x,.string y,.string z],24),(#[.bool false,.slice none 0 0,.slice none 0 0,.bool false,.slice none 0 0,.slice none 0 0,.bool false,.slice none 0 0,.slice none 0 0],63)] rfl ?_;rintro W0 ⟨k1,k2,hb⟩;have ww:=hid (show Below w.heap.size w W0 from hb);have K1:=hid k1;have K2:=hid k2;clear k1 k2 hb;have dx:=K1.out.cell (i:=0) rfl;go_wp2_with fail
  with_reducible refine(C1.out _).mono ?_
  rintro e W1 ⟨u07,rfl,u0V,hb⟩;clear dx;obtain ⟨K1,K2⟩:=aO hb K1 K2;have p8:=hbt ww hb;have RA:=hid u0V;clear hb u0V;go_upto_region 2 with fail
  refine ak W1 [(u07.l.toArray,61)] rfl ?_;have L1:=K1.out.lt;have L2:=K2.out.lt;have L3:=p8.out.size;rintro W2 ⟨k3,hb⟩;have hb:Below W1.heap.size W1 W2:=hb;obtain ⟨K1,K2,RA⟩:=aZ hb K1 K2 RA;have HB2:=hbt p8 hb;have K3:=hid k3;clear k3 hb;have dz:=K1.out.cell (i:=1) rfl;go_wp2_with fail
  with_reducible refine(C2.out _).mono ?_
  rintro e W3 ⟨u08,rfl,u0W,hb⟩;clear dz;obtain ⟨K1,K2,K3,RA⟩:=bi hb K1 K2 K3 RA;have HB3:=hbt HB2 hb;have RB:=hid u0W;clear hb u0W;go_upto_region 3 with fail
  refine ak W3 [(u08.l.toArray,61)] rfl ?_;have L4:=K1.out.lt;have L5:=K2.out.lt;have L6:=K3.out.lt;have L7:=HB3.out.size;rintro W4 ⟨k4,hb⟩;have hb:Below W3.heap.size W3 W4:=hb;obtain ⟨K1,K2,K3,RA,RB⟩:=bS hb K1 K2 K3 RA RB;have HB4:=hbt HB3 hb;have K4:=hid k4;clear k4 hb;have dX:=K1.out.cell (i:=2) rfl;go_wp2_with fail
  with_reducible refine(C3.out _).mono ?_
  rintro e W5 ⟨u09,rfl,u0Y,hb⟩;clear dX;obtain ⟨K1,K2,K3,K4,RA,RB⟩:=d9 hb K1 K2 K3 K4 RA RB;have HB5:=hbt HB4 hb;have RC:=hid u0Y;clear hb u0Y;go_upto_region 4 with fail
  refine ak W5 [(u09.l.toArray,61)] rfl ?_;have L8:=K1.out.lt;have L9:=K2.out.lt;have L10:=K3.out.lt;have L11:=K4.out.lt;have L12:=HB5.out.size;rintro W6 ⟨k5,hb⟩;have hb:Below W5.heap.size W5 W6:=hb;obtain ⟨K2,K3,K4,RA,RB,RC⟩:=d9 hb K2 K3 K4 RA RB RC;have HB6:=hbt HB5 hb;have K5:=hid k5;clear k5 hb;obtain ⟨pq,ol,oM⟩:=ag K3.out rfl rfl rfl;obtain ⟨u0q,u0r,u0s⟩:=ag K4.out rfl rfl rfl;obtain ⟨u1o,u1p,u1q⟩:=ag K5.out rfl rfl rfl;obtain ⟨kE,kK,kM,u0a,u0b,u0c,u0d,u0e,u0f⟩:=bC K2.out rfl rfl rfl rfl rfl rfl rfl rfl rfl;obtain ⟨u13,u14,u15,u1r,u1s,u1t,u1u,u1v,u1w⟩:=fC K2.out;go_wp2
  exact bodyPost_ret (v:=.tuple #[(Qvv u07 u08 u09),.bool _]) (by simp[Lvv,QS.l,Qvv,QS.v,results,results36,go_sem,kE,kK,kM,u0a,u0b,u0c,u0d,u0e,u0f]) rfl ⟨_,_,_,rfl,(dB (Lvv u07 u08 u09) 0 RA.out K2.out (by simp[bZ,Lvv,QS.l]) (by simp[bD,Lvv,QS.l])),(dB (Lvv u07 u08 u09) 0 RB.out K2.out (by simp[bZ,Lvv,QS.l]) (by simp[bD,Lvv,QS.l])),(dB (Lvv u07 u08 u09) 0 RC.out K2.out (by simp[bZ,Lvv,QS.l]) (by simp[bD,Lvv,QS.l])),(av (l:=(Lvv u07 u08 u09)) (i:=0) (by omega) HB6.out)⟩)
theorem z3v (xa xb xc:Rat)(sao sbo sco:ByteArray)(q1a q1b q1c:QS)(w:World)  (h1:KP1 41 xa (.string sao))(h2:KP1 41 xb (.string sbo))(h3:KP1 41 xc (.string sco))(r1a:FQ w q1a xa)(r1b:FQ w q1b xb)(r1c:FQ w q1c xc) :
 CR 31 #[(Qvv q1a q1b q1c)] w (.agg #[.string sao,.string sbo,.string sco]):=by
 dsimp only[Qvv];obtain ⟨C1,C2,C3,R1a,R1b,R1c⟩:=bX h1 h2 h3 r1a r1b r1c;clear h1 h2 h3 r1a r1b r1c;go_enter func31,ntmps31
 go_upto_region 1 with fail
 refine ak w [((Lvv q1a q1b q1c).toArray,63),(#[.string ⟨#[]⟩,.string ⟨#[]⟩,.string ⟨#[]⟩],24)] rfl ?_;rintro W0 ⟨k1,k2,hb⟩;have ww:=hid (show Below w.heap.size w W0 from hb);obtain ⟨R1a,R1b,R1c⟩:=aZ ww.out R1a R1b R1c;obtain ⟨K1,K2⟩:=aD k1 k2;clear k1 k2 hb;go_wp2_with fail
 refine aB (fun a0 a' V=>a'=⟨aV [(3,.pointer (some ⟨w.heap.size,0,none⟩)),(4,q1a.v),(5,.string sao),(6,.pointer (some ⟨w.heap.size,3,none⟩)),(7,q1b.v),(8,.string sbo),(9,.pointer (some ⟨w.heap.size,6,none⟩)),(10,q1c.v),(11,.string sco),(12,.agg #[.string sao,.string sbo,.string sco])] a0.tmps,a0.defers⟩∧Below w.heap.size w V∧SBk V (w.heap.size+1) #[.string sao,.string sbo,.string sco] 24) ?_ ?_
 · refine ay (by kernel_rfl) 10 1 (fun i=>[3,4,5,6,7,8,9,10,11,12].getD i 0) (RelR [Rel.val (.pointer (some ⟨w.heap.size,0,none⟩)),Rel.val (q1a.v),Rel.val (.string sao),Rel.val (.pointer (some ⟨w.heap.size,3,none⟩)),Rel.val (q1b.v),Rel.val (.string sbo),Rel.val (.pointer (some ⟨w.heap.size,6,none⟩)),Rel.val (q1c.v),Rel.val (.string sco),Rel.val (.agg #[.string sao,.string sbo,.string sco])]) (fun W=>Below W0.heap.size W0 W) (fun _ _=>True) (by kernel_rfl) (by kernel_rfl) (by kernel_rfl) trivial (Below.refl _ _).drew ?_ ?_
   · intro u6 a W i hI hD hrd him
     obtain ⟨HI,Hr⟩:=aD hI hrd;clear hI hrd hD;have y1:a.tmps[1]? = some (.pointer (some ⟨w.heap.size,0,none⟩)):=HI.out.rest 1 (by decide);obtain⟨dx,dz,dX,u0g,u0h,u0i,u0j,u0k,u0l⟩:=dV (K1.out.below HI.out.world);have X0:RV _ u6 a 0 3 (.pointer (some ⟨w.heap.size,0,none⟩)):=HI.out.rh;have X1:RV _ u6 a 1 4 (q1a.v):=HI.out.rh;have X3:RV _ u6 a 3 6 (.pointer (some ⟨w.heap.size,3,none⟩)):=HI.out.rh;have X4:RV _ u6 a 4 7 (q1b.v):=HI.out.rh;have X6:RV _ u6 a 6 9 (.pointer (some ⟨w.heap.size,6,none⟩)):=HI.out.rh;have X7:RV _ u6 a 7 10 (q1c.v):=HI.out.rh;have X2:RV _ u6 a 2 5 (.string sao):=HI.out.rh;have X5:RV _ u6 a 5 8 (.string sbo):=HI.out.rh;have X8:RV _ u6 a 8 11 (.string sco):=HI.out.rh
     match i,him,Hr with
     | 0,_,Hi|1,_,Hi|3,_,Hi|4,_,Hi|6,_,Hi|7,_,Hi|9,_,Hi =>
       try have x0:=X0.g Hi.out (by decide +kernel)
       try have x3:=X3.g Hi.out (by decide +kernel)
       try have x6:=X6.g Hi.out (by decide +kernel)
       try have x2:=X2.g Hi.out (by decide +kernel)
       try have x5:=X5.g Hi.out (by decide +kernel)
       try have x8:=X8.g Hi.out (by decide +kernel)
       refine ax rfl fun K' hK=>?_;go_simp;exact hK.out _ _ ⟨HI.out.pv Hi.out rfl,trivial⟩
     | 2,_,Hi =>
       have x1:=X1.g Hi.out (by kernel_rfl);refine ax rfl fun K' hK=>?_;go_simp;with_reducible refine(C1.out _ _ (R1a.out.below HI.out.world)).mono ?_
       rintro e W' ⟨rfl,hb⟩;exact hK.out _ _ ⟨HI.out.pc Hi.out hb rfl,trivial⟩
     | 5,_,Hi =>
       have x4:=X4.g Hi.out (by kernel_rfl);refine ax rfl fun K' hK=>?_;go_simp;with_reducible refine(C2.out _ _ (R1b.out.below HI.out.world)).mono ?_
       rintro e W' ⟨rfl,hb⟩;exact hK.out _ _ ⟨HI.out.pc Hi.out hb rfl,trivial⟩
     | 8,_,Hi =>
       have x7:=X7.g Hi.out (by kernel_rfl);refine ax rfl fun K' hK=>?_;go_simp;with_reducible refine(C3.out _ _ (R1c.out.below HI.out.world)).mono ?_
       rintro e W' ⟨rfl,hb⟩;exact hK.out _ _ ⟨HI.out.pc Hi.out hb rfl,trivial⟩
     | n+10,h,_=>exact absurd h (by omega)
   · intro u6 a W hI hD w9
     have x9:a.tmps[12]? = some (.agg #[.string sao,.string sbo,.string sco]):=hI.sx w9 9;obtain ⟨wz,HI,HA⟩:=ae hI.world hI w9;clear hI w9;obtain ⟨mi,K2⟩:=aD (ww.out.trans (wz.out.mono ww.out.size)) (K2.out.below wz.out);obtain⟨kE,kK,kM⟩:=cells3 K2.out;obtain⟨u13,u14,u15⟩:=frz3 K2.out;have y2:a.tmps[2]? = some (.pointer (some ⟨w.heap.size+1,0,none⟩)):=HI.out.rest 2 (by decide);refine aL (t:=0) ?_;refine ax rfl fun K' hK=>?_;go_simp;refine hK.out _ _ ?_;clear hK;refine aR ?_;rw[← dW];exact⟨rfl,(HI.out.finx ⟨HI.out.sx HA.out 0,HI.out.sx HA.out 1,HI.out.sx HA.out 2,HI.out.sx HA.out 3,HI.out.sx HA.out 4,HI.out.sx HA.out 5,HI.out.sx HA.out 6,HI.out.sx HA.out 7,HI.out.sx HA.out 8,x9,trivial⟩ rfl),(av (l:=[.string sao,.string sbo,.string sco]) (i:=0) (by omega) mi.out),(dK K2.out)⟩
 rintro a' W1 ⟨rfl,z0,z1⟩;have p8:=hid z0;have K2:=hid z1;clear z0 z1;simp only[aV,List.setIfInBounds_toArray,List.set_cons_zero,List.set_cons_succ];go_wp2;obtain ⟨kE,kK,kM⟩:=ag K2.out rfl rfl rfl;exact bodyPost_ret (v:=.agg #[.string sao,.string sbo,.string sco]) (by simp[results,results31,go_sem,kE,kK,kM]) rfl ⟨rfl,p8.out⟩
theorem z0v (xa xb xc ya yb yc za zb zc:Rat)(q1a q1b q1c:QS)(q2a q2b q2c:QS)(w:World)  (h1:KQ2 55 xa ya za)(h2:KQ2 55 xb yb zb)(h3:KQ2 55 xc yc zc)(r1a:FQ w q1a xa)(r1b:FQ w q1b xb)(r1c:FQ w q1c xc)(r2a:FQ w q2a ya)(r2b:FQ w q2b yb)(r2c:FQ w q2c yc) :
 Calls Tryz.prog 32 #[(Qvv q1a q1b q1c),(Qvv q2a q2b q2c)] w (Rv3 w za zb zc):=by
 dsimp only[Qvv];obtain ⟨C1,C2,C3,R1a,R1b,R1c,R2a,R2b,R2c⟩:=bR h1 h2 h3 r1a r1b r1c r2a r2b r2c;clear h1 h2 h3 r1a r1b r1c r2a r2b r2c;go_enter func32,ntmps32
 go_upto_region 1 with fail
 refine ak w [((Lvv q1a q1b q1c).toArray,63),((Lvv q2a q2b q2c).toArray,63),(#[.bool false,.slice none 0 0,.slice none 0 0,.bool false,.slice none 0 0,.slice none 0 0,.bool false,.slice none 0 0,.slice none 0 0],63)] rfl ?_;rintro W0 ⟨k1,k2,k3,hb⟩;have ww:=hid (show Below w.heap.size w W0 from hb);obtain ⟨R1a,R1b,R1c,R2a,R2b,R2c⟩:=d9 ww.out R1a R1b R1c R2a R2b R2c;obtain ⟨K1,K2,K3⟩:=ae k1 k2 k3;clear k1 k2 k3 hb;go_wp2_with fail
 refine aB (fun a0 a' V=>∃ (wo:QS) (wu:QS) (wy:QS) (sw:QS) (rf:QS) (rM:QS),a'=⟨aV [(5,.pointer (some ⟨w.heap.size,0,none⟩)),(6,q1a.v),(7,.pointer (some ⟨w.heap.size+1,0,none⟩)),(8,q2a.v),(9,wo.v),(10,.pointer (some ⟨w.heap.size,3,none⟩)),(11,q1b.v),(12,.pointer (some ⟨w.heap.size+1,3,none⟩)),(13,q2b.v),(14,wu.v),(15,.pointer (some ⟨w.heap.size,6,none⟩)),(16,q1c.v),(17,.pointer (some ⟨w.heap.size+1,6,none⟩)),(18,q2c.v),(19,wy.v),(20,Qvv sw rf rM)] a0.tmps,a0.defers⟩∧Below w.heap.size w V∧SBk V (w.heap.size+1+1) (Lvv sw rf rM).toArray 63∧FQ V sw za∧FQ V rf zb∧FQ V rM zc) ?_ ?_
 · refine ay (by kernel_rfl) 16 1 (fun i=>[5,6,7,8,9,10,11,12,13,14,15,16,17,18,19,20].getD i 0) (RelR [Rel.val (.pointer (some ⟨w.heap.size,0,none⟩)),Rel.val (q1a.v),Rel.val (.pointer (some ⟨w.heap.size+1,0,none⟩)),Rel.val (q2a.v),Rel.q za,Rel.val (.pointer (some ⟨w.heap.size,3,none⟩)),Rel.val (q1b.v),Rel.val (.pointer (some ⟨w.heap.size+1,3,none⟩)),Rel.val (q2b.v),Rel.q zb,Rel.val (.pointer (some ⟨w.heap.size,6,none⟩)),Rel.val (q1c.v),Rel.val (.pointer (some ⟨w.heap.size+1,6,none⟩)),Rel.val (q2c.v),Rel.q zc,Rel.qv za zb zc]) (fun W=>Below W0.heap.size W0 W) (fun _ _=>True) (by kernel_rfl) (by kernel_rfl) (by kernel_rfl) trivial (Below.refl _ _).drew ?_ ?_
   · intro u6 a W i hI hD hrd him
     obtain ⟨HI,Hr⟩:=aD hI hrd;clear hI hrd hD;have y2:a.tmps[2]? = some (.pointer (some ⟨w.heap.size,0,none⟩)):=HI.out.rest 2 (by decide);have y3:a.tmps[3]? = some (.pointer (some ⟨w.heap.size+1,0,none⟩)):=HI.out.rest 3 (by decide);obtain⟨dx,dz,dX,u0g,u0h,u0i,u0j,u0k,u0l⟩:=dV (K1.out.below HI.out.world);obtain⟨kE,kK,kM,u0a,u0b,u0c,u0d,u0e,u0f⟩:=dV (K2.out.below HI.out.world);have X0:RV _ u6 a 0 5 (.pointer (some ⟨w.heap.size,0,none⟩)):=HI.out.rh;have X2:RV _ u6 a 2 7 (.pointer (some ⟨w.heap.size+1,0,none⟩)):=HI.out.rh;have X1:RV _ u6 a 1 6 (q1a.v):=HI.out.rh;have X3:RV _ u6 a 3 8 (q2a.v):=HI.out.rh;have X5:RV _ u6 a 5 10 (.pointer (some ⟨w.heap.size,3,none⟩)):=HI.out.rh;have X7:RV _ u6 a 7 12 (.pointer (some ⟨w.heap.size+1,3,none⟩)):=HI.out.rh;have X6:RV _ u6 a 6 11 (q1b.v):=HI.out.rh;have X8:RV _ u6 a 8 13 (q2b.v):=HI.out.rh;have X10:RV _ u6 a 10 15 (.pointer (some ⟨w.heap.size,6,none⟩)):=HI.out.rh;have X12:RV _ u6 a 12 17 (.pointer (some ⟨w.heap.size+1,6,none⟩)):=HI.out.rh;have X11:RV _ u6 a 11 16 (q1c.v):=HI.out.rh;have X13:RV _ u6 a 13 18 (q2c.v):=HI.out.rh
     match i,him,Hr with
     | 0,_,Hi|1,_,Hi|2,_,Hi|3,_,Hi|5,_,Hi|6,_,Hi|7,_,Hi|8,_,Hi|10,_,Hi|11,_,Hi|12,_,Hi|13,_,Hi =>
       try have x0:=X0.g Hi.out (by decide +kernel)
       try have x2:=X2.g Hi.out (by decide +kernel)
       try have x5:=X5.g Hi.out (by decide +kernel)
       try have x7:=X7.g Hi.out (by decide +kernel)
       try have x10:=X10.g Hi.out (by decide +kernel)
       try have x12:=X12.g Hi.out (by decide +kernel)
       refine ax rfl fun K' hK=>?_;go_simp;exact hK.out _ _ ⟨HI.out.pv Hi.out rfl,trivial⟩
     | 4,_,Hi =>
       have x1:=X1.g Hi.out (by kernel_rfl);have x3:=X3.g Hi.out (by kernel_rfl);refine ax rfl fun K' hK=>?_;go_simp;with_reducible refine(C1.out _ _ _ (R1a.out.below HI.out.world) (R2a.out.below HI.out.world)).mono ?_
       rintro e W' ⟨wo,rfl,kV,hb⟩;exact hK.out _ _ ⟨HI.out.pc Hi.out hb ⟨wo,rfl,kV⟩,trivial⟩
     | 9,_,Hi =>
       have x6:=X6.g Hi.out (by kernel_rfl);have x8:=X8.g Hi.out (by kernel_rfl);refine ax rfl fun K' hK=>?_;go_simp;with_reducible refine(C2.out _ _ _ (R1b.out.below HI.out.world) (R2b.out.below HI.out.world)).mono ?_
       rintro e W' ⟨wu,rfl,bv,hb⟩;exact hK.out _ _ ⟨HI.out.pc Hi.out hb ⟨wu,rfl,bv⟩,trivial⟩
     | 14,_,Hi =>
       have x11:=X11.g Hi.out (by kernel_rfl);have x13:=X13.g Hi.out (by kernel_rfl);refine ax rfl fun K' hK=>?_;go_simp;with_reducible refine(C3.out _ _ _ (R1c.out.below HI.out.world) (R2c.out.below HI.out.world)).mono ?_
       rintro e W' ⟨wy,rfl,u0m,hb⟩;exact hK.out _ _ ⟨HI.out.pc Hi.out hb ⟨wy,rfl,u0m⟩,trivial⟩
     | 15,_,Hi =>
       obtain⟨wo,x4,rV⟩:=qAt HI.out 4 9 Hi.out (by kernel_rfl);dsimp only[QS.v]at x4;obtain⟨wu,x9,oV⟩:=qAt HI.out 9 14 Hi.out (by kernel_rfl);dsimp only[QS.v]at x9;obtain⟨wy,x14,kC⟩:=qAt HI.out 14 19 Hi.out (by kernel_rfl);dsimp only[QS.v]at x14;refine ax rfl fun K' hK=>?_;go_simp;exact hK.out _ _ ⟨HI.out.pv Hi.out ⟨wo,wu,wy,rfl,rV.out,oV.out,kC.out⟩,trivial⟩
     | n+16,h,_=>exact absurd h (by omega)
   · intro u6 a W hI hD w9
     obtain⟨wo,x4,rV⟩:=qEnd hI w9 4 9;obtain⟨wu,x9,oV⟩:=qEnd hI w9 9 14;obtain⟨wy,x14,kC⟩:=qEnd hI w9 14 19;obtain⟨sw,rf,rM,x15,u0t,u0u,u0v⟩:=zP hI w9 15 20;obtain ⟨wz,HI,HA⟩:=ae hI.world hI w9;clear hI w9;obtain ⟨mi,K3⟩:=aD (ww.out.trans (wz.out.mono ww.out.size)) (K3.out.below wz.out);have RA:=rV;have RB:=oV;have RC:=kC;have bM:=u0t;have bV:=u0u;have af:=u0v;obtain⟨pq,ol,oM,l5,l6,lg,lv,ky,kz⟩:=dV K3.out;obtain⟨u0n,u0o,u0p,u0w,u0x,u0y,u0z,u0A,u0B⟩:=frz9 K3.out;have y4:a.tmps[4]? = some (.pointer (some ⟨w.heap.size+1+1,0,none⟩)):=HI.out.rest 4 (by decide);dsimp only[Qvv]at x15;refine aL (t:=0) ?_;refine ax rfl fun K' hK=>?_;go_simp;refine hK.out _ _ ?_;clear hK;refine aR ?_;rw[← jA];have s0:∀ {q':QS} {x':Rat},FQ W q' x'→FQ (storeAll W (w.heap.size+1+1) 0 (Lvv sw rf rM)) q' x':=fun h'=>dB _ 0 h' K3.out (by simp[bZ,Lvv,QS.l]) (by simp[bD,Lvv,QS.l]);exact⟨rfl,wo,wu,wy,sw,rf,rM,(HI.out.finx ⟨HI.out.sx HA.out 0,HI.out.sx HA.out 1,HI.out.sx HA.out 2,HI.out.sx HA.out 3,x4,HI.out.sx HA.out 5,HI.out.sx HA.out 6,HI.out.sx HA.out 7,HI.out.sx HA.out 8,x9,HI.out.sx HA.out 10,HI.out.sx HA.out 11,HI.out.sx HA.out 12,HI.out.sx HA.out 13,x14,x15,trivial⟩ rfl),(av (l:=(Lvv sw rf rM)) (i:=0) (by omega) mi.out),(cZ K3.out),(s0 bM.out),(s0 bV.out),(s0 af.out)⟩
 rintro a' W1 ⟨wo,wu,wy,sw,rf,rM,rfl,z0,z1,z2,z3,z4⟩;obtain ⟨p8,K3,bM,bV,af⟩:=bI z0 z1 z2 z3 z4;clear z0 z1 z2 z3 z4;simp only[aV,List.setIfInBounds_toArray,List.set_cons_zero,List.set_cons_succ];go_wp2;obtain ⟨pq,ol,oM,l5,l6,lg,lv,ky,kz⟩:=bC K3.out rfl rfl rfl rfl rfl rfl rfl rfl rfl;exact bodyPost_ret (v:=(Qvv sw rf rM)) (by simp[Lvv,QS.l,Qvv,QS.v,results,results32,go_sem,pq,ol,oM,l5,l6,lg,lv,ky,kz]) rfl ⟨_,_,_,rfl,bM.out,bV.out,af.out,p8.out⟩
theorem yB (xa xb xc ya yb yc za zb zc:Rat)(q1a q1b q1c:QS)(q2a q2b q2c:QS)(w:World)  (h1:KQ2 57 xa ya za)(h2:KQ2 57 xb yb zb)(h3:KQ2 57 xc yc zc)(r1a:FQ w q1a xa)(r1b:FQ w q1b xb)(r1c:FQ w q1c xc)(r2a:FQ w q2a ya)(r2b:FQ w q2b yb)(r2c:FQ w q2c yc) :
 Calls Tryz.prog 34 #[(Qvv q1a q1b q1c),(Qvv q2a q2b q2c)] w (Rv3 w za zb zc):=by
 dsimp only[Qvv];obtain ⟨C1,C2,C3,R1a,R1b,R1c,R2a,R2b,R2c⟩:=bR h1 h2 h3 r1a r1b r1c r2a r2b r2c;clear h1 h2 h3 r1a r1b r1c r2a r2b r2c;go_enter func34,ntmps34
 go_upto_region 1 with fail
 refine ak w [((Lvv q1a q1b q1c).toArray,63),((Lvv q2a q2b q2c).toArray,63),(#[.bool false,.slice none 0 0,.slice none 0 0,.bool false,.slice none 0 0,.slice none 0 0,.bool false,.slice none 0 0,.slice none 0 0],63)] rfl ?_;rintro W0 ⟨k1,k2,k3,hb⟩;have ww:=hid (show Below w.heap.size w W0 from hb);obtain ⟨R1a,R1b,R1c,R2a,R2b,R2c⟩:=d9 ww.out R1a R1b R1c R2a R2b R2c;obtain ⟨K1,K2,K3⟩:=ae k1 k2 k3;clear k1 k2 k3 hb;go_wp2_with fail
 refine aB (fun a0 a' V=>∃ (wo:QS) (wu:QS) (wy:QS) (sw:QS) (rf:QS) (rM:QS),a'=⟨aV [(5,.pointer (some ⟨w.heap.size,0,none⟩)),(6,q1a.v),(7,.pointer (some ⟨w.heap.size+1,0,none⟩)),(8,q2a.v),(9,wo.v),(10,.pointer (some ⟨w.heap.size,3,none⟩)),(11,q1b.v),(12,.pointer (some ⟨w.heap.size+1,3,none⟩)),(13,q2b.v),(14,wu.v),(15,.pointer (some ⟨w.heap.size,6,none⟩)),(16,q1c.v),(17,.pointer (some ⟨w.heap.size+1,6,none⟩)),(18,q2c.v),(19,wy.v),(20,Qvv sw rf rM)] a0.tmps,a0.defers⟩∧Below w.heap.size w V∧SBk V (w.heap.size+1+1) (Lvv sw rf rM).toArray 63∧FQ V sw za∧FQ V rf zb∧FQ V rM zc) ?_ ?_
 · refine ay (by kernel_rfl) 16 1 (fun i=>[5,6,7,8,9,10,11,12,13,14,15,16,17,18,19,20].getD i 0) (RelR [Rel.val (.pointer (some ⟨w.heap.size,0,none⟩)),Rel.val (q1a.v),Rel.val (.pointer (some ⟨w.heap.size+1,0,none⟩)),Rel.val (q2a.v),Rel.q za,Rel.val (.pointer (some ⟨w.heap.size,3,none⟩)),Rel.val (q1b.v),Rel.val (.pointer (some ⟨w.heap.size+1,3,none⟩)),Rel.val (q2b.v),Rel.q zb,Rel.val (.pointer (some ⟨w.heap.size,6,none⟩)),Rel.val (q1c.v),Rel.val (.pointer (some ⟨w.heap.size+1,6,none⟩)),Rel.val (q2c.v),Rel.q zc,Rel.qv za zb zc]) (fun W=>Below W0.heap.size W0 W) (fun _ _=>True) (by kernel_rfl) (by kernel_rfl) (by kernel_rfl) trivial (Below.refl _ _).drew ?_ ?_
   · intro u6 a W i hI hD hrd him
     obtain ⟨HI,Hr⟩:=aD hI hrd;clear hI hrd hD;have y2:a.tmps[2]? = some (.pointer (some ⟨w.heap.size,0,none⟩)):=HI.out.rest 2 (by decide);have y3:a.tmps[3]? = some (.pointer (some ⟨w.heap.size+1,0,none⟩)):=HI.out.rest 3 (by decide);obtain⟨dx,dz,dX,u0g,u0h,u0i,u0j,u0k,u0l⟩:=dV (K1.out.below HI.out.world);obtain⟨kE,kK,kM,u0a,u0b,u0c,u0d,u0e,u0f⟩:=dV (K2.out.below HI.out.world);have X0:RV _ u6 a 0 5 (.pointer (some ⟨w.heap.size,0,none⟩)):=HI.out.rh;have X2:RV _ u6 a 2 7 (.pointer (some ⟨w.heap.size+1,0,none⟩)):=HI.out.rh;have X1:RV _ u6 a 1 6 (q1a.v):=HI.out.rh;have X3:RV _ u6 a 3 8 (q2a.v):=HI.out.rh;have X5:RV _ u6 a 5 10 (.pointer (some ⟨w.heap.size,3,none⟩)):=HI.out.rh;have X7:RV _ u6 a 7 12 (.pointer (some ⟨w.heap.size+1,3,none⟩)):=HI.out.rh;have X6:RV _ u6 a 6 11 (q1b.v):=HI.out.rh;have X8:RV _ u6 a 8 13 (q2b.v):=HI.out.rh;have X10:RV _ u6 a 10 15 (.pointer (some ⟨w.heap.size,6,none⟩)):=HI.out.rh;have X12:RV _ u6 a 12 17 (.pointer (some ⟨w.heap.size+1,6,none⟩)):=HI.out.rh;have X11:RV _ u6 a 11 16 (q1c.v):=HI.out.rh;have X13:RV _ u6 a 13 18 (q2c.v):=HI.out.rh
     match i,him,Hr with
     | 0,_,Hi|1,_,Hi|2,_,Hi|3,_,Hi|5,_,Hi|6,_,Hi|7,_,Hi|8,_,Hi|10,_,Hi|11,_,Hi|12,_,Hi|13,_,Hi =>
       try have x0:=X0.g Hi.out (by decide +kernel)
       try have x2:=X2.g Hi.out (by decide +kernel)
       try have x5:=X5.g Hi.out (by decide +kernel)
       try have x7:=X7.g Hi.out (by decide +kernel)
       try have x10:=X10.g Hi.out (by decide +kernel)
       try have x12:=X12.g Hi.out (by decide +kernel)
       refine ax rfl fun K' hK=>?_;go_simp;exact hK.out _ _ ⟨HI.out.pv Hi.out rfl,trivial⟩
     | 4,_,Hi =>
       have x1:=X1.g Hi.out (by kernel_rfl);have x3:=X3.g Hi.out (by kernel_rfl);refine ax rfl fun K' hK=>?_;go_simp;with_reducible refine(C1.out _ _ _ (R1a.out.below HI.out.world) (R2a.out.below HI.out.world)).mono ?_
       rintro e W' ⟨wo,rfl,kV,hb⟩;exact hK.out _ _ ⟨HI.out.pc Hi.out hb ⟨wo,rfl,kV⟩,trivial⟩
     | 9,_,Hi =>
       have x6:=X6.g Hi.out (by kernel_rfl);have x8:=X8.g Hi.out (by kernel_rfl);refine ax rfl fun K' hK=>?_;go_simp;with_reducible refine(C2.out _ _ _ (R1b.out.below HI.out.world) (R2b.out.below HI.out.world)).mono ?_
       rintro e W' ⟨wu,rfl,bv,hb⟩;exact hK.out _ _ ⟨HI.out.pc Hi.out hb ⟨wu,rfl,bv⟩,trivial⟩
     | 14,_,Hi =>
       have x11:=X11.g Hi.out (by kernel_rfl);have x13:=X13.g Hi.out (by kernel_rfl);refine ax rfl fun K' hK=>?_;go_simp;with_reducible refine(C3.out _ _ _ (R1c.out.below HI.out.world) (R2c.out.below HI.out.world)).mono ?_
       rintro e W' ⟨wy,rfl,u0m,hb⟩;exact hK.out _ _ ⟨HI.out.pc Hi.out hb ⟨wy,rfl,u0m⟩,trivial⟩
     | 15,_,Hi =>
       obtain⟨wo,x4,rV⟩:=qAt HI.out 4 9 Hi.out (by kernel_rfl);dsimp only[QS.v]at x4;obtain⟨wu,x9,oV⟩:=qAt HI.out 9 14 Hi.out (by kernel_rfl);dsimp only[QS.v]at x9;obtain⟨wy,x14,kC⟩:=qAt HI.out 14 19 Hi.out (by kernel_rfl);dsimp only[QS.v]at x14;refine ax rfl fun K' hK=>?_;go_simp;exact hK.out _ _ ⟨HI.out.pv Hi.out ⟨wo,wu,wy,rfl,rV.out,oV.out,kC.out⟩,trivial⟩
     | n+16,h,_=>exact absurd h (by omega)
   · intro u6 a W hI hD w9
     obtain⟨wo,x4,rV⟩:=qEnd hI w9 4 9;obtain⟨wu,x9,oV⟩:=qEnd hI w9 9 14;obtain⟨wy,x14,kC⟩:=qEnd hI w9 14 19;obtain⟨sw,rf,rM,x15,u0t,u0u,u0v⟩:=zP hI w9 15 20;obtain ⟨wz,HI,HA⟩:=ae hI.world hI w9;clear hI w9;obtain ⟨mi,K3⟩:=aD (ww.out.trans (wz.out.mono ww.out.size)) (K3.out.below wz.out);have RA:=rV;have RB:=oV;have RC:=kC;have bM:=u0t;have bV:=u0u;have af:=u0v;obtain⟨pq,ol,oM,l5,l6,lg,lv,ky,kz⟩:=dV K3.out;obtain⟨u0n,u0o,u0p,u0w,u0x,u0y,u0z,u0A,u0B⟩:=frz9 K3.out;have y4:a.tmps[4]? = some (.pointer (some ⟨w.heap.size+1+1,0,none⟩)):=HI.out.rest 4 (by decide);dsimp only[Qvv]at x15;refine aL (t:=0) ?_;refine ax rfl fun K' hK=>?_;go_simp;refine hK.out _ _ ?_;clear hK;refine aR ?_;rw[← jA];have s0:∀ {q':QS} {x':Rat},FQ W q' x'→FQ (storeAll W (w.heap.size+1+1) 0 (Lvv sw rf rM)) q' x':=fun h'=>dB _ 0 h' K3.out (by simp[bZ,Lvv,QS.l]) (by simp[bD,Lvv,QS.l]);exact⟨rfl,wo,wu,wy,sw,rf,rM,(HI.out.finx ⟨HI.out.sx HA.out 0,HI.out.sx HA.out 1,HI.out.sx HA.out 2,HI.out.sx HA.out 3,x4,HI.out.sx HA.out 5,HI.out.sx HA.out 6,HI.out.sx HA.out 7,HI.out.sx HA.out 8,x9,HI.out.sx HA.out 10,HI.out.sx HA.out 11,HI.out.sx HA.out 12,HI.out.sx HA.out 13,x14,x15,trivial⟩ rfl),(av (l:=(Lvv sw rf rM)) (i:=0) (by omega) mi.out),(cZ K3.out),(s0 bM.out),(s0 bV.out),(s0 af.out)⟩
 rintro a' W1 ⟨wo,wu,wy,sw,rf,rM,rfl,z0,z1,z2,z3,z4⟩;obtain ⟨p8,K3,bM,bV,af⟩:=bI z0 z1 z2 z3 z4;clear z0 z1 z2 z3 z4;simp only[aV,List.setIfInBounds_toArray,List.set_cons_zero,List.set_cons_succ];go_wp2;obtain ⟨pq,ol,oM,l5,l6,lg,lv,ky,kz⟩:=bC K3.out rfl rfl rfl rfl rfl rfl rfl rfl rfl;exact bodyPost_ret (v:=(Qvv sw rf rM)) (by simp[Lvv,QS.l,Qvv,QS.v,results,results34,go_sem,pq,ol,oM,l5,l6,lg,lv,ky,kz]) rfl ⟨_,_,_,rfl,bM.out,bV.out,af.out,p8.out⟩
theorem yw (xa xb xc k za zb zc:Rat)(q1a q1b q1c:QS)(q2:QS)(w:World)  (h1:KQ2 69 xa k za)(h2:KQ2 69 xb k zb)(h3:KQ2 69 xc k zc)(r1a:FQ w q1a xa)(r1b:FQ w q1b xb)(r1c:FQ w q1c xc)(r2:FQ w q2 k) :
 Calls Tryz.prog 38 #[(Qvv q1a q1b q1c),(QS.v q2)] w (Rv3 w za zb zc):=by
 dsimp only[QS.v,Qvv];obtain ⟨C1,C2,C3,R1a,R1b,R1c,R2⟩:=fB h1 h2 h3 r1a r1b r1c r2;clear h1 h2 h3 r1a r1b r1c r2;go_enter func38,ntmps38
 go_upto_region 1 with fail
 refine ak w [((Lvv q1a q1b q1c).toArray,63),(q2.l.toArray,61),(#[.bool false,.slice none 0 0,.slice none 0 0,.bool false,.slice none 0 0,.slice none 0 0,.bool false,.slice none 0 0,.slice none 0 0],63)] rfl ?_;rintro W0 ⟨k1,k2,k3,hb⟩;have ww:=hid (show Below w.heap.size w W0 from hb);obtain ⟨R1a,R1b,R1c,R2⟩:=bi ww.out R1a R1b R1c R2;obtain ⟨K1,K2,K3⟩:=ae k1 k2 k3;clear k1 k2 k3 hb;go_wp2_with fail
 refine aB (fun a0 a' V=>∃ (dY:QS) (cO:QS) (bg:QS) (gy:QS) (fq:QS) (fw:QS),a'=⟨aV [(5,.pointer (some ⟨w.heap.size,0,none⟩)),(6,q1a.v),(7,q2.v),(8,dY.v),(9,.pointer (some ⟨w.heap.size,3,none⟩)),(10,q1b.v),(11,q2.v),(12,cO.v),(13,.pointer (some ⟨w.heap.size,6,none⟩)),(14,q1c.v),(15,q2.v),(16,bg.v),(17,Qvv gy fq fw)] a0.tmps,a0.defers⟩∧Below w.heap.size w V∧SBk V (w.heap.size+1+1) (Lvv gy fq fw).toArray 63∧FQ V gy za∧FQ V fq zb∧FQ V fw zc) ?_ ?_
 · refine ay (by kernel_rfl) 13 1 (fun i=>[5,6,7,8,9,10,11,12,13,14,15,16,17].getD i 0) (RelR [Rel.val (.pointer (some ⟨w.heap.size,0,none⟩)),Rel.val (q1a.v),Rel.val (q2.v),Rel.q za,Rel.val (.pointer (some ⟨w.heap.size,3,none⟩)),Rel.val (q1b.v),Rel.val (q2.v),Rel.q zb,Rel.val (.pointer (some ⟨w.heap.size,6,none⟩)),Rel.val (q1c.v),Rel.val (q2.v),Rel.q zc,Rel.qv za zb zc]) (fun W=>Below W0.heap.size W0 W) (fun _ _=>True) (by kernel_rfl) (by kernel_rfl) (by kernel_rfl) trivial (Below.refl _ _).drew ?_ ?_
   · intro u6 a W i hI hD hrd him
     obtain ⟨HI,Hr⟩:=aD hI hrd;clear hI hrd hD;have y2:a.tmps[2]? = some (.pointer (some ⟨w.heap.size,0,none⟩)):=HI.out.rest 2 (by decide);have y3:a.tmps[3]? = some (.pointer (some ⟨w.heap.size+1,0,none⟩)):=HI.out.rest 3 (by decide);obtain⟨dx,dz,dX,u0g,u0h,u0i,u0j,u0k,u0l⟩:=dV (K1.out.below HI.out.world);obtain⟨kE,kK,kM⟩:=cells3 (K2.out.below HI.out.world);have X0:RV _ u6 a 0 5 (.pointer (some ⟨w.heap.size,0,none⟩)):=HI.out.rh;have X1:RV _ u6 a 1 6 (q1a.v):=HI.out.rh;have X2:RV _ u6 a 2 7 (q2.v):=HI.out.rh;have X4:RV _ u6 a 4 9 (.pointer (some ⟨w.heap.size,3,none⟩)):=HI.out.rh;have X5:RV _ u6 a 5 10 (q1b.v):=HI.out.rh;have X6:RV _ u6 a 6 11 (q2.v):=HI.out.rh;have X8:RV _ u6 a 8 13 (.pointer (some ⟨w.heap.size,6,none⟩)):=HI.out.rh;have X9:RV _ u6 a 9 14 (q1c.v):=HI.out.rh;have X10:RV _ u6 a 10 15 (q2.v):=HI.out.rh
     match i,him,Hr with
     | 0,_,Hi|1,_,Hi|2,_,Hi|4,_,Hi|5,_,Hi|6,_,Hi|8,_,Hi|9,_,Hi|10,_,Hi =>
       try have x0:=X0.g Hi.out (by decide +kernel)
       try have x4:=X4.g Hi.out (by decide +kernel)
       try have x8:=X8.g Hi.out (by decide +kernel)
       refine ax rfl fun K' hK=>?_;go_simp;exact hK.out _ _ ⟨HI.out.pv Hi.out rfl,trivial⟩
     | 3,_,Hi =>
       have x1:=X1.g Hi.out (by kernel_rfl);have x2:=X2.g Hi.out (by kernel_rfl);refine ax rfl fun K' hK=>?_;go_simp;with_reducible refine(C1.out _ _ _ (R1a.out.below HI.out.world) (R2.out.below HI.out.world)).mono ?_
       rintro e W' ⟨dY,rfl,u17,hb⟩;exact hK.out _ _ ⟨HI.out.pc Hi.out hb ⟨dY,rfl,u17⟩,trivial⟩
     | 7,_,Hi =>
       have x5:=X5.g Hi.out (by kernel_rfl);have x6:=X6.g Hi.out (by kernel_rfl);refine ax rfl fun K' hK=>?_;go_simp;with_reducible refine(C2.out _ _ _ (R1b.out.below HI.out.world) (R2.out.below HI.out.world)).mono ?_
       rintro e W' ⟨cO,rfl,u18,hb⟩;exact hK.out _ _ ⟨HI.out.pc Hi.out hb ⟨cO,rfl,u18⟩,trivial⟩
     | 11,_,Hi =>
       have x9:=X9.g Hi.out (by kernel_rfl);have x10:=X10.g Hi.out (by kernel_rfl);refine ax rfl fun K' hK=>?_;go_simp;with_reducible refine(C3.out _ _ _ (R1c.out.below HI.out.world) (R2.out.below HI.out.world)).mono ?_
       rintro e W' ⟨bg,rfl,u19,hb⟩;exact hK.out _ _ ⟨HI.out.pc Hi.out hb ⟨bg,rfl,u19⟩,trivial⟩
     | 12,_,Hi =>
       obtain⟨dY,x3,u0C⟩:=qAt HI.out 3 8 Hi.out (by kernel_rfl);dsimp only[QS.v]at x3;obtain⟨cO,x7,u0D⟩:=qAt HI.out 7 12 Hi.out (by kernel_rfl);dsimp only[QS.v]at x7;obtain⟨bg,x11,u0E⟩:=qAt HI.out 11 16 Hi.out (by kernel_rfl);dsimp only[QS.v]at x11;refine ax rfl fun K' hK=>?_;go_simp;exact hK.out _ _ ⟨HI.out.pv Hi.out ⟨dY,cO,bg,rfl,u0C.out,u0D.out,u0E.out⟩,trivial⟩
     | n+13,h,_=>exact absurd h (by omega)
   · intro u6 a W hI hD w9
     obtain⟨dY,x3,u0C⟩:=qEnd hI w9 3 8;obtain⟨cO,x7,u0D⟩:=qEnd hI w9 7 12;obtain⟨bg,x11,u0E⟩:=qEnd hI w9 11 16;obtain⟨gy,fq,fw,x12,u1a,u1b,u1c⟩:=zP hI w9 12 17;obtain ⟨wz,HI,HA⟩:=ae hI.world hI w9;clear hI w9;obtain ⟨mi,K3⟩:=aD (ww.out.trans (wz.out.mono ww.out.size)) (K3.out.below wz.out);have RA:=u0C;have RB:=u0D;have RC:=u0E;have u0F:=u1a;have u0G:=u1b;have u0H:=u1c;obtain⟨pq,ol,oM,l5,l6,lg,lv,ky,kz⟩:=dV K3.out;obtain⟨u0n,u0o,u0p,u0w,u0x,u0y,u0z,u0A,u0B⟩:=frz9 K3.out;have y4:a.tmps[4]? = some (.pointer (some ⟨w.heap.size+1+1,0,none⟩)):=HI.out.rest 4 (by decide);dsimp only[Qvv]at x12;refine aL (t:=0) ?_;refine ax rfl fun K' hK=>?_;go_simp;refine hK.out _ _ ?_;clear hK;refine aR ?_;rw[← jA];have s0:∀ {q':QS} {x':Rat},FQ W q' x'→FQ (storeAll W (w.heap.size+1+1) 0 (Lvv gy fq fw)) q' x':=fun h'=>dB _ 0 h' K3.out (by simp[bZ,Lvv,QS.l]) (by simp[bD,Lvv,QS.l]);exact⟨rfl,dY,cO,bg,gy,fq,fw,(HI.out.finx ⟨HI.out.sx HA.out 0,HI.out.sx HA.out 1,HI.out.sx HA.out 2,x3,HI.out.sx HA.out 4,HI.out.sx HA.out 5,HI.out.sx HA.out 6,x7,HI.out.sx HA.out 8,HI.out.sx HA.out 9,HI.out.sx HA.out 10,x11,x12,trivial⟩ rfl),(av (l:=(Lvv gy fq fw)) (i:=0) (by omega) mi.out),(cZ K3.out),(s0 u0F.out),(s0 u0G.out),(s0 u0H.out)⟩
 rintro a' W1 ⟨dY,cO,bg,gy,fq,fw,rfl,z0,z1,z2,z3,z4⟩;obtain ⟨p8,K3,u0F,u0G,u0H⟩:=bI z0 z1 z2 z3 z4;clear z0 z1 z2 z3 z4;simp only[aV,List.setIfInBounds_toArray,List.set_cons_zero,List.set_cons_succ];go_wp2;obtain ⟨pq,ol,oM,l5,l6,lg,lv,ky,kz⟩:=bC K3.out rfl rfl rfl rfl rfl rfl rfl rfl rfl;exact bodyPost_ret (v:=(Qvv gy fq fw)) (by simp[Lvv,QS.l,Qvv,QS.v,results,results38,go_sem,pq,ol,oM,l5,l6,lg,lv,ky,kz]) rfl ⟨_,_,_,rfl,u0F.out,u0G.out,u0H.out,p8.out⟩
theorem yC (xa xb xc ya yb yc za zb zc zs zd:Rat)(q1a q1b q1c:QS)(q2a q2b q2c:QS)(w:World)  (h1:KQ2 69 xa ya za)(h2:KQ2 69 xb yb zb)(h3:KQ2 69 xc yc zc)(h4:KQ2 55 zb zc zs)(h5:KQ2 55 za zs zd)(r1a:FQ w q1a xa)(r1b:FQ w q1b xb)(r1c:FQ w q1c xc)(r2a:FQ w q2a ya)(r2b:FQ w q2b yb)(r2c:FQ w q2c yc) :
 Calls Tryz.prog 42 #[(Qvv q1a q1b q1c),(Qvv q2a q2b q2c)] w (RQ w zd):=by
 dsimp only[Qvv];obtain ⟨C1,C2,C3,C4,C5,R1a,R1b,R1c,R2a⟩:=bR h1 h2 h3 h4 h5 r1a r1b r1c r2a;have R2b:=hid r2b;have R2c:=hid r2c;clear h1 h2 h3 h4 h5 r1a r1b r1c r2a r2b r2c;go_enter func42,ntmps42
 go_upto_region 1 with fail
 refine ak w [((Lvv q1a q1b q1c).toArray,63),((Lvv q2a q2b q2c).toArray,63),(#[.bool false,.slice none 0 0,.slice none 0 0],61)] rfl ?_;rintro W0 ⟨k1,k2,k3,hb⟩;have ww:=hid (show Below w.heap.size w W0 from hb);obtain ⟨R1a,R1b,R1c,R2a,R2b,R2c⟩:=d9 ww.out R1a R1b R1c R2a R2b R2c;obtain ⟨K1,K2,K3⟩:=ae k1 k2 k3;clear k1 k2 k3 hb;go_wp2_with fail
 refine aB (fun a0 a' V=>∃ (wo:QS) (wu:QS) (wy:QS) (mf:QS) (kD:QS),a'=⟨aV [(5,.pointer (some ⟨w.heap.size,0,none⟩)),(6,q1a.v),(7,.pointer (some ⟨w.heap.size+1,0,none⟩)),(8,q2a.v),(9,wo.v),(10,.pointer (some ⟨w.heap.size,3,none⟩)),(11,q1b.v),(12,.pointer (some ⟨w.heap.size+1,3,none⟩)),(13,q2b.v),(14,wu.v),(15,.pointer (some ⟨w.heap.size,6,none⟩)),(16,q1c.v),(17,.pointer (some ⟨w.heap.size+1,6,none⟩)),(18,q2c.v),(19,wy.v),(20,mf.v),(21,kD.v)] a0.tmps,a0.defers⟩∧Below w.heap.size w V∧SBk V (w.heap.size+1+1) kD.l.toArray 61∧FQ V kD zd) ?_ ?_
 · refine ay (by kernel_rfl) 17 1 (fun i=>[5,6,7,8,9,10,11,12,13,14,15,16,17,18,19,20,21].getD i 0) (RelR [Rel.val (.pointer (some ⟨w.heap.size,0,none⟩)),Rel.val (q1a.v),Rel.val (.pointer (some ⟨w.heap.size+1,0,none⟩)),Rel.val (q2a.v),Rel.q za,Rel.val (.pointer (some ⟨w.heap.size,3,none⟩)),Rel.val (q1b.v),Rel.val (.pointer (some ⟨w.heap.size+1,3,none⟩)),Rel.val (q2b.v),Rel.q zb,Rel.val (.pointer (some ⟨w.heap.size,6,none⟩)),Rel.val (q1c.v),Rel.val (.pointer (some ⟨w.heap.size+1,6,none⟩)),Rel.val (q2c.v),Rel.q zc,Rel.q zs,Rel.q zd]) (fun W=>Below W0.heap.size W0 W) (fun _ _=>True) (by kernel_rfl) (by kernel_rfl) (by kernel_rfl) trivial (Below.refl _ _).drew ?_ ?_
   · intro u6 a W i hI hD hrd him
     obtain ⟨HI,Hr⟩:=aD hI hrd;clear hI hrd hD;have y2:a.tmps[2]? = some (.pointer (some ⟨w.heap.size,0,none⟩)):=HI.out.rest 2 (by decide);have y3:a.tmps[3]? = some (.pointer (some ⟨w.heap.size+1,0,none⟩)):=HI.out.rest 3 (by decide);obtain⟨dx,dz,dX,u0g,u0h,u0i,u0j,u0k,u0l⟩:=dV (K1.out.below HI.out.world);obtain⟨kE,kK,kM,u0a,u0b,u0c,u0d,u0e,u0f⟩:=dV (K2.out.below HI.out.world);have X0:RV _ u6 a 0 5 (.pointer (some ⟨w.heap.size,0,none⟩)):=HI.out.rh;have X2:RV _ u6 a 2 7 (.pointer (some ⟨w.heap.size+1,0,none⟩)):=HI.out.rh;have X1:RV _ u6 a 1 6 (q1a.v):=HI.out.rh;have X3:RV _ u6 a 3 8 (q2a.v):=HI.out.rh;have X5:RV _ u6 a 5 10 (.pointer (some ⟨w.heap.size,3,none⟩)):=HI.out.rh;have X7:RV _ u6 a 7 12 (.pointer (some ⟨w.heap.size+1,3,none⟩)):=HI.out.rh;have X6:RV _ u6 a 6 11 (q1b.v):=HI.out.rh;have X8:RV _ u6 a 8 13 (q2b.v):=HI.out.rh;have X10:RV _ u6 a 10 15 (.pointer (some ⟨w.heap.size,6,none⟩)):=HI.out.rh;have X12:RV _ u6 a 12 17 (.pointer (some ⟨w.heap.size+1,6,none⟩)):=HI.out.rh;have X11:RV _ u6 a 11 16 (q1c.v):=HI.out.rh;have X13:RV _ u6 a 13 18 (q2c.v):=HI.out.rh
     match i,him,Hr with
     | 0,_,Hi|1,_,Hi|2,_,Hi|3,_,Hi|5,_,Hi|6,_,Hi|7,_,Hi|8,_,Hi|10,_,Hi|11,_,Hi|12,_,Hi|13,_,Hi =>
       try have x0:=X0.g Hi.out (by decide +kernel)
       try have x2:=X2.g Hi.out (by decide +kernel)
       try have x5:=X5.g Hi.out (by decide +kernel)
       try have x7:=X7.g Hi.out (by decide +kernel)
       try have x10:=X10.g Hi.out (by decide +kernel)
       try have x12:=X12.g Hi.out (by decide +kernel)
       refine ax rfl fun K' hK=>?_;go_simp;exact hK.out _ _ ⟨HI.out.pv Hi.out rfl,trivial⟩
     | 4,_,Hi =>
       have x1:=X1.g Hi.out (by kernel_rfl);have x3:=X3.g Hi.out (by kernel_rfl);refine ax rfl fun K' hK=>?_;go_simp;with_reducible refine(C1.out _ _ _ (R1a.out.below HI.out.world) (R2a.out.below HI.out.world)).mono ?_
       rintro e W' ⟨wo,rfl,kV,hb⟩;exact hK.out _ _ ⟨HI.out.pc Hi.out hb ⟨wo,rfl,kV⟩,trivial⟩
     | 9,_,Hi =>
       have x6:=X6.g Hi.out (by kernel_rfl);have x8:=X8.g Hi.out (by kernel_rfl);refine ax rfl fun K' hK=>?_;go_simp;with_reducible refine(C2.out _ _ _ (R1b.out.below HI.out.world) (R2b.out.below HI.out.world)).mono ?_
       rintro e W' ⟨wu,rfl,bv,hb⟩;exact hK.out _ _ ⟨HI.out.pc Hi.out hb ⟨wu,rfl,bv⟩,trivial⟩
     | 14,_,Hi =>
       have x11:=X11.g Hi.out (by kernel_rfl);have x13:=X13.g Hi.out (by kernel_rfl);refine ax rfl fun K' hK=>?_;go_simp;with_reducible refine(C3.out _ _ _ (R1c.out.below HI.out.world) (R2c.out.below HI.out.world)).mono ?_
       rintro e W' ⟨wy,rfl,u0m,hb⟩;exact hK.out _ _ ⟨HI.out.pc Hi.out hb ⟨wy,rfl,u0m⟩,trivial⟩
     | 15,_,Hi =>
       obtain⟨wu,x9,oV⟩:=qAt HI.out 9 14 Hi.out (by kernel_rfl);obtain⟨wy,x14,kC⟩:=qAt HI.out 14 19 Hi.out (by kernel_rfl);refine ax rfl fun K' hK=>?_;go_simp;with_reducible refine(C4.out _ _ _ oV.out kC.out).mono ?_
       rintro e W' ⟨mf,rfl,u0I,hb⟩;exact hK.out _ _ ⟨HI.out.pc Hi.out hb ⟨mf,rfl,u0I⟩,trivial⟩
     | 16,_,Hi =>
       obtain⟨wo,x4,rV⟩:=qAt HI.out 4 9 Hi.out (by kernel_rfl);obtain⟨mf,x15,u00⟩:=qAt HI.out 15 20 Hi.out (by kernel_rfl);refine ax rfl fun K' hK=>?_;go_simp;with_reducible refine(C5.out _ _ _ rV.out u00.out).mono ?_
       rintro e W' ⟨kD,rfl,u1d,hb⟩;exact hK.out _ _ ⟨HI.out.pc Hi.out hb ⟨kD,rfl,u1d⟩,trivial⟩
     | n+17,h,_=>exact absurd h (by omega)
   · intro u6 a W hI hD w9
     obtain⟨wo,x4,rV⟩:=qEnd hI w9 4 9;obtain⟨wu,x9,oV⟩:=qEnd hI w9 9 14;obtain⟨wy,x14,kC⟩:=qEnd hI w9 14 19;obtain⟨mf,x15,u00⟩:=qEnd hI w9 15 20;obtain⟨kD,x16,u1e⟩:=qEnd hI w9 16 21;obtain ⟨wz,HI,HA⟩:=ae hI.world hI w9;clear hI w9;obtain ⟨mi,K3⟩:=aD (ww.out.trans (wz.out.mono ww.out.size)) (K3.out.below wz.out);have RA:=rV;have RB:=oV;have RC:=kC;have RS:=u00;have RD:=u1e;obtain⟨pq,ol,oM⟩:=cells3 K3.out;obtain⟨u0n,u0o,u0p⟩:=frz3 K3.out;have y4:a.tmps[4]? = some (.pointer (some ⟨w.heap.size+1+1,0,none⟩)):=HI.out.rest 4 (by decide);dsimp only[QS.v]at x16;refine aL (t:=0) ?_;refine ax rfl fun K' hK=>?_;go_simp;refine hK.out _ _ ?_;clear hK;refine aR ?_;rw[← dW];have s0:∀ {q':QS} {x':Rat},FQ W q' x'→FQ (storeAll W (w.heap.size+1+1) 0 kD.l) q' x':=fun h'=>dB _ 0 h' K3.out (by simp[bZ,Lvv,QS.l]) (by simp[bD,Lvv,QS.l]);exact⟨rfl,wo,wu,wy,mf,kD,(HI.out.finx ⟨HI.out.sx HA.out 0,HI.out.sx HA.out 1,HI.out.sx HA.out 2,HI.out.sx HA.out 3,x4,HI.out.sx HA.out 5,HI.out.sx HA.out 6,HI.out.sx HA.out 7,HI.out.sx HA.out 8,x9,HI.out.sx HA.out 10,HI.out.sx HA.out 11,HI.out.sx HA.out 12,HI.out.sx HA.out 13,x14,x15,x16,trivial⟩ rfl),(av (l:=kD.l) (i:=0) (by omega) mi.out),(dK K3.out),(s0 RD.out)⟩
 rintro a' W1 ⟨wo,wu,wy,mf,kD,rfl,z0,z1,z2⟩;obtain ⟨p8,K3,RD⟩:=ae z0 z1 z2;clear z0 z1 z2;simp only[aV,List.setIfInBounds_toArray,List.set_cons_zero,List.set_cons_succ];go_wp2;obtain ⟨pq,ol,oM⟩:=ag K3.out rfl rfl rfl;exact bodyPost_ret (v:=kD.v) (by simp[Lvv,QS.l,Qvv,QS.v,results,results42,go_sem,pq,ol,oM]) rfl ⟨_,rfl,RD.out,p8.out⟩
theorem yA (xa xb xc ya yb yc pa ma pb mb pc mc za zb zc:Rat)(q1a q1b q1c:QS)(q2a q2b q2c:QS)(w:World)  (h01:KQ2 69 xb yc pa)(h02:KQ2 69 xc yb ma)(h03:KQ2 57 pa ma za)(h11:KQ2 69 xc ya pb)(h12:KQ2 69 xa yc mb)(h13:KQ2 57 pb mb zb)(h21:KQ2 69 xa yb pc)(h22:KQ2 69 xb ya mc)(h23:KQ2 57 pc mc zc)(r1a:FQ w q1a xa)(r1b:FQ w q1b xb)(r1c:FQ w q1c xc)(r2a:FQ w q2a ya)(r2b:FQ w q2b yb)(r2c:FQ w q2c yc) :
 Calls Tryz.prog 44 #[(Qvv q1a q1b q1c),(Qvv q2a q2b q2c)] w (Rv3 w za zb zc):=by
 dsimp only[Qvv];obtain ⟨C01,C02,C03,C11,C12,C13,C21,C22,C23⟩:=bR h01 h02 h03 h11 h12 h13 h21 h22 h23;obtain ⟨R1a,R1b,R1c,R2a,R2b,R2c⟩:=bX r1a r1b r1c r2a r2b r2c;clear h01 h02 h03 h11 h12 h13 h21 h22 h23 r1a r1b r1c r2a r2b r2c;go_enter func44,ntmps44
 go_upto_region 1 with fail
 refine ak w [((Lvv q1a q1b q1c).toArray,63),((Lvv q2a q2b q2c).toArray,63),(#[.bool false,.slice none 0 0,.slice none 0 0,.bool false,.slice none 0 0,.slice none 0 0,.bool false,.slice none 0 0,.slice none 0 0],63)] rfl ?_;rintro W0 ⟨k1,k2,k3,hb⟩;have ww:=hid (show Below w.heap.size w W0 from hb);obtain ⟨R1a,R1b,R1c,R2a,R2b,R2c⟩:=d9 ww.out R1a R1b R1c R2a R2b R2c;obtain ⟨K1,K2,K3⟩:=ae k1 k2 k3;clear k1 k2 k3 hb;go_wp2_with fail
 refine aB (fun a0 a' V=>∃ (wo:QS) (wu:QS) (bn:QS) (mf:QS) (u01:QS) (bq:QS) (u02:QS) (u03:QS) (bu:QS) (fQ:QS) (ed:QS) (dn:QS),a'=⟨aV [(5,.pointer (some ⟨w.heap.size,3,none⟩)),(6,q1b.v),(7,.pointer (some ⟨w.heap.size+1,6,none⟩)),(8,q2c.v),(9,wo.v),(10,.pointer (some ⟨w.heap.size,6,none⟩)),(11,q1c.v),(12,.pointer (some ⟨w.heap.size+1,3,none⟩)),(13,q2b.v),(14,wu.v),(15,bn.v),(16,.pointer (some ⟨w.heap.size,6,none⟩)),(17,q1c.v),(18,.pointer (some ⟨w.heap.size+1,0,none⟩)),(19,q2a.v),(20,mf.v),(21,.pointer (some ⟨w.heap.size,0,none⟩)),(22,q1a.v),(23,.pointer (some ⟨w.heap.size+1,6,none⟩)),(24,q2c.v),(25,u01.v),(26,bq.v),(27,.pointer (some ⟨w.heap.size,0,none⟩)),(28,q1a.v),(29,.pointer (some ⟨w.heap.size+1,3,none⟩)),(30,q2b.v),(31,u02.v),(32,.pointer (some ⟨w.heap.size,3,none⟩)),(33,q1b.v),(34,.pointer (some ⟨w.heap.size+1,0,none⟩)),(35,q2a.v),(36,u03.v),(37,bu.v),(38,Qvv fQ ed dn)] a0.tmps,a0.defers⟩∧Below w.heap.size w V∧SBk V (w.heap.size+1+1) (Lvv fQ ed dn).toArray 63∧FQ V fQ za∧FQ V ed zb∧FQ V dn zc) ?_ ?_
 · refine ay (by kernel_rfl) 34 1 (fun i=>[5,6,7,8,9,10,11,12,13,14,15,16,17,18,19,20,21,22,23,24,25,26,27,28,29,30,31,32,33,34,35,36,37,38].getD i 0) (RelR [Rel.val (.pointer (some ⟨w.heap.size,3,none⟩)),Rel.val (q1b.v),Rel.val (.pointer (some ⟨w.heap.size+1,6,none⟩)),Rel.val (q2c.v),Rel.q pa,Rel.val (.pointer (some ⟨w.heap.size,6,none⟩)),Rel.val (q1c.v),Rel.val (.pointer (some ⟨w.heap.size+1,3,none⟩)),Rel.val (q2b.v),Rel.q ma,Rel.q za,Rel.val (.pointer (some ⟨w.heap.size,6,none⟩)),Rel.val (q1c.v),Rel.val (.pointer (some ⟨w.heap.size+1,0,none⟩)),Rel.val (q2a.v),Rel.q pb,Rel.val (.pointer (some ⟨w.heap.size,0,none⟩)),Rel.val (q1a.v),Rel.val (.pointer (some ⟨w.heap.size+1,6,none⟩)),Rel.val (q2c.v),Rel.q mb,Rel.q zb,Rel.val (.pointer (some ⟨w.heap.size,0,none⟩)),Rel.val (q1a.v),Rel.val (.pointer (some ⟨w.heap.size+1,3,none⟩)),Rel.val (q2b.v),Rel.q pc,Rel.val (.pointer (some ⟨w.heap.size,3,none⟩)),Rel.val (q1b.v),Rel.val (.pointer (some ⟨w.heap.size+1,0,none⟩)),Rel.val (q2a.v),Rel.q mc,Rel.q zc,Rel.qv za zb zc]) (fun W=>Below W0.heap.size W0 W) (fun _ _=>True) (by kernel_rfl) (by kernel_rfl) (by kernel_rfl) trivial (Below.refl _ _).drew ?_ ?_
   · intro u6 a W i hI hD hrd him
     obtain ⟨HI,Hr⟩:=aD hI hrd;clear hI hrd hD;have y2:a.tmps[2]? = some (.pointer (some ⟨w.heap.size,0,none⟩)):=HI.out.rest 2 (by decide);have y3:a.tmps[3]? = some (.pointer (some ⟨w.heap.size+1,0,none⟩)):=HI.out.rest 3 (by decide);obtain⟨dx,dz,dX,u0g,u0h,u0i,u0j,u0k,u0l⟩:=dV (K1.out.below HI.out.world);obtain⟨kE,kK,kM,u0a,u0b,u0c,u0d,u0e,u0f⟩:=dV (K2.out.below HI.out.world);have X0:RV _ u6 a 0 5 (.pointer (some ⟨w.heap.size,3,none⟩)):=HI.out.rh;have X2:RV _ u6 a 2 7 (.pointer (some ⟨w.heap.size+1,6,none⟩)):=HI.out.rh;have X1:RV _ u6 a 1 6 (q1b.v):=HI.out.rh;have X3:RV _ u6 a 3 8 (q2c.v):=HI.out.rh;have X5:RV _ u6 a 5 10 (.pointer (some ⟨w.heap.size,6,none⟩)):=HI.out.rh;have X7:RV _ u6 a 7 12 (.pointer (some ⟨w.heap.size+1,3,none⟩)):=HI.out.rh;have X6:RV _ u6 a 6 11 (q1c.v):=HI.out.rh;have X8:RV _ u6 a 8 13 (q2b.v):=HI.out.rh;have X11:RV _ u6 a 11 16 (.pointer (some ⟨w.heap.size,6,none⟩)):=HI.out.rh;have X13:RV _ u6 a 13 18 (.pointer (some ⟨w.heap.size+1,0,none⟩)):=HI.out.rh;have X12:RV _ u6 a 12 17 (q1c.v):=HI.out.rh;have X14:RV _ u6 a 14 19 (q2a.v):=HI.out.rh;have X16:RV _ u6 a 16 21 (.pointer (some ⟨w.heap.size,0,none⟩)):=HI.out.rh;have X18:RV _ u6 a 18 23 (.pointer (some ⟨w.heap.size+1,6,none⟩)):=HI.out.rh;have X17:RV _ u6 a 17 22 (q1a.v):=HI.out.rh;have X19:RV _ u6 a 19 24 (q2c.v):=HI.out.rh;have X22:RV _ u6 a 22 27 (.pointer (some ⟨w.heap.size,0,none⟩)):=HI.out.rh;have X24:RV _ u6 a 24 29 (.pointer (some ⟨w.heap.size+1,3,none⟩)):=HI.out.rh;have X23:RV _ u6 a 23 28 (q1a.v):=HI.out.rh;have X25:RV _ u6 a 25 30 (q2b.v):=HI.out.rh;have X27:RV _ u6 a 27 32 (.pointer (some ⟨w.heap.size,3,none⟩)):=HI.out.rh;have X29:RV _ u6 a 29 34 (.pointer (some ⟨w.heap.size+1,0,none⟩)):=HI.out.rh;have X28:RV _ u6 a 28 33 (q1b.v):=HI.out.rh;have X30:RV _ u6 a 30 35 (q2a.v):=HI.out.rh
     match i,him,Hr with
     | 0,_,Hi|1,_,Hi|2,_,Hi|3,_,Hi|5,_,Hi|6,_,Hi|7,_,Hi|8,_,Hi|11,_,Hi|12,_,Hi|13,_,Hi|14,_,Hi|16,_,Hi|17,_,Hi|18,_,Hi|19,_,Hi|22,_,Hi|23,_,Hi|24,_,Hi|25,_,Hi|27,_,Hi|28,_,Hi|29,_,Hi|30,_,Hi =>
       try have x0:=X0.g Hi.out (by decide +kernel)
       try have x2:=X2.g Hi.out (by decide +kernel)
       try have x5:=X5.g Hi.out (by decide +kernel)
       try have x7:=X7.g Hi.out (by decide +kernel)
       try have x11:=X11.g Hi.out (by decide +kernel)
       try have x13:=X13.g Hi.out (by decide +kernel)
       try have x16:=X16.g Hi.out (by decide +kernel)
       try have x18:=X18.g Hi.out (by decide +kernel)
       try have x22:=X22.g Hi.out (by decide +kernel)
       try have x24:=X24.g Hi.out (by decide +kernel)
       try have x27:=X27.g Hi.out (by decide +kernel)
       try have x29:=X29.g Hi.out (by decide +kernel)
       refine ax rfl fun K' hK=>?_;go_simp;exact hK.out _ _ ⟨HI.out.pv Hi.out rfl,trivial⟩
     | 4,_,Hi =>
       have x1:=X1.g Hi.out (by kernel_rfl);have x3:=X3.g Hi.out (by kernel_rfl);refine ax rfl fun K' hK=>?_;go_simp;with_reducible refine(C01.out _ _ _ (R1b.out.below HI.out.world) (R2c.out.below HI.out.world)).mono ?_
       rintro e W' ⟨wo,rfl,kV,hb⟩;exact hK.out _ _ ⟨HI.out.pc Hi.out hb ⟨wo,rfl,kV⟩,trivial⟩
     | 9,_,Hi =>
       have x6:=X6.g Hi.out (by kernel_rfl);have x8:=X8.g Hi.out (by kernel_rfl);refine ax rfl fun K' hK=>?_;go_simp;with_reducible refine(C02.out _ _ _ (R1c.out.below HI.out.world) (R2b.out.below HI.out.world)).mono ?_
       rintro e W' ⟨wu,rfl,bv,hb⟩;exact hK.out _ _ ⟨HI.out.pc Hi.out hb ⟨wu,rfl,bv⟩,trivial⟩
     | 10,_,Hi =>
       obtain⟨wo,x4,rV⟩:=qAt HI.out 4 9 Hi.out (by kernel_rfl);obtain⟨wu,x9,oV⟩:=qAt HI.out 9 14 Hi.out (by kernel_rfl);refine ax rfl fun K' hK=>?_;go_simp;with_reducible refine(C03.out _ _ _ rV.out oV.out).mono ?_
       rintro e W' ⟨bn,rfl,u1f,hb⟩;exact hK.out _ _ ⟨HI.out.pc Hi.out hb ⟨bn,rfl,u1f⟩,trivial⟩
     | 15,_,Hi =>
       have x12:=X12.g Hi.out (by kernel_rfl);have x14:=X14.g Hi.out (by kernel_rfl);refine ax rfl fun K' hK=>?_;go_simp;with_reducible refine(C11.out _ _ _ (R1c.out.below HI.out.world) (R2a.out.below HI.out.world)).mono ?_
       rintro e W' ⟨mf,rfl,u0I,hb⟩;exact hK.out _ _ ⟨HI.out.pc Hi.out hb ⟨mf,rfl,u0I⟩,trivial⟩
     | 20,_,Hi =>
       have x17:=X17.g Hi.out (by kernel_rfl);have x19:=X19.g Hi.out (by kernel_rfl);refine ax rfl fun K' hK=>?_;go_simp;with_reducible refine(C12.out _ _ _ (R1a.out.below HI.out.world) (R2c.out.below HI.out.world)).mono ?_
       rintro e W' ⟨u01,rfl,u1g,hb⟩;exact hK.out _ _ ⟨HI.out.pc Hi.out hb ⟨u01,rfl,u1g⟩,trivial⟩
     | 21,_,Hi =>
       obtain⟨mf,x15,u00⟩:=qAt HI.out 15 20 Hi.out (by kernel_rfl);obtain⟨u01,x20,u0J⟩:=qAt HI.out 20 25 Hi.out (by kernel_rfl);refine ax rfl fun K' hK=>?_;go_simp;with_reducible refine(C13.out _ _ _ u00.out u0J.out).mono ?_
       rintro e W' ⟨bq,rfl,u1h,hb⟩;exact hK.out _ _ ⟨HI.out.pc Hi.out hb ⟨bq,rfl,u1h⟩,trivial⟩
     | 26,_,Hi =>
       have x23:=X23.g Hi.out (by kernel_rfl);have x25:=X25.g Hi.out (by kernel_rfl);refine ax rfl fun K' hK=>?_;go_simp;with_reducible refine(C21.out _ _ _ (R1a.out.below HI.out.world) (R2b.out.below HI.out.world)).mono ?_
       rintro e W' ⟨u02,rfl,u1i,hb⟩;exact hK.out _ _ ⟨HI.out.pc Hi.out hb ⟨u02,rfl,u1i⟩,trivial⟩
     | 31,_,Hi =>
       have x28:=X28.g Hi.out (by kernel_rfl);have x30:=X30.g Hi.out (by kernel_rfl);refine ax rfl fun K' hK=>?_;go_simp;with_reducible refine(C22.out _ _ _ (R1b.out.below HI.out.world) (R2a.out.below HI.out.world)).mono ?_
       rintro e W' ⟨u03,rfl,u1j,hb⟩;exact hK.out _ _ ⟨HI.out.pc Hi.out hb ⟨u03,rfl,u1j⟩,trivial⟩
     | 32,_,Hi =>
       obtain⟨u02,x26,u0K⟩:=qAt HI.out 26 31 Hi.out (by kernel_rfl);obtain⟨u03,x31,u0L⟩:=qAt HI.out 31 36 Hi.out (by kernel_rfl);refine ax rfl fun K' hK=>?_;go_simp;with_reducible refine(C23.out _ _ _ u0K.out u0L.out).mono ?_
       rintro e W' ⟨bu,rfl,u1k,hb⟩;exact hK.out _ _ ⟨HI.out.pc Hi.out hb ⟨bu,rfl,u1k⟩,trivial⟩
     | 33,_,Hi =>
       obtain⟨bn,x10,u0M⟩:=qAt HI.out 10 15 Hi.out (by kernel_rfl);dsimp only[QS.v]at x10;obtain⟨bq,x21,u0N⟩:=qAt HI.out 21 26 Hi.out (by kernel_rfl);dsimp only[QS.v]at x21;obtain⟨bu,x32,u0O⟩:=qAt HI.out 32 37 Hi.out (by kernel_rfl);dsimp only[QS.v]at x32;refine ax rfl fun K' hK=>?_;go_simp;exact hK.out _ _ ⟨HI.out.pv Hi.out ⟨bn,bq,bu,rfl,u0M.out,u0N.out,u0O.out⟩,trivial⟩
     | n+34,h,_=>exact absurd h (by omega)
   · intro u6 a W hI hD w9
     obtain⟨wo,x4,rV⟩:=qEnd hI w9 4 9;obtain⟨wu,x9,oV⟩:=qEnd hI w9 9 14;obtain⟨bn,x10,u0M⟩:=qEnd hI w9 10 15;obtain⟨mf,x15,u00⟩:=qEnd hI w9 15 20;obtain⟨u01,x20,u0J⟩:=qEnd hI w9 20 25;obtain⟨bq,x21,u0N⟩:=qEnd hI w9 21 26;obtain⟨u02,x26,u0K⟩:=qEnd hI w9 26 31;obtain⟨u03,x31,u0L⟩:=qEnd hI w9 31 36;obtain⟨bu,x32,u0O⟩:=qEnd hI w9 32 37;obtain⟨fQ,ed,dn,x33,u1l,u1m,u1n⟩:=zP hI w9 33 38;obtain ⟨wz,HI,HA⟩:=ae hI.world hI w9;clear hI w9;obtain ⟨mi,K3⟩:=aD (ww.out.trans (wz.out.mono ww.out.size)) (K3.out.below wz.out);have RP0:=rV;have RM0:=oV;have RA:=u0M;have RP1:=u00;have RM1:=u0J;have RB:=u0N;have RP2:=u0K;have RM2:=u0L;have RC:=u0O;have u0P:=u1l;have u0Q:=u1m;have u0R:=u1n;obtain⟨pq,ol,oM,l5,l6,lg,lv,ky,kz⟩:=dV K3.out;obtain⟨u0n,u0o,u0p,u0w,u0x,u0y,u0z,u0A,u0B⟩:=frz9 K3.out;have y4:a.tmps[4]? = some (.pointer (some ⟨w.heap.size+1+1,0,none⟩)):=HI.out.rest 4 (by decide);dsimp only[Qvv]at x33;refine aL (t:=0) ?_;refine ax rfl fun K' hK=>?_;go_simp;refine hK.out _ _ ?_;clear hK;refine aR ?_;rw[← jA];have s0:∀ {q':QS} {x':Rat},FQ W q' x'→FQ (storeAll W (w.heap.size+1+1) 0 (Lvv fQ ed dn)) q' x':=fun h'=>dB _ 0 h' K3.out (by simp[bZ,Lvv,QS.l]) (by simp[bD,Lvv,QS.l]);exact⟨rfl,wo,wu,bn,mf,u01,bq,u02,u03,bu,fQ,ed,dn,(HI.out.finx ⟨HI.out.sx HA.out 0,HI.out.sx HA.out 1,HI.out.sx HA.out 2,HI.out.sx HA.out 3,x4,HI.out.sx HA.out 5,HI.out.sx HA.out 6,HI.out.sx HA.out 7,HI.out.sx HA.out 8,x9,x10,HI.out.sx HA.out 11,HI.out.sx HA.out 12,HI.out.sx HA.out 13,HI.out.sx HA.out 14,x15,HI.out.sx HA.out 16,HI.out.sx HA.out 17,HI.out.sx HA.out 18,HI.out.sx HA.out 19,x20,x21,HI.out.sx HA.out 22,HI.out.sx HA.out 23,HI.out.sx HA.out 24,HI.out.sx HA.out 25,x26,HI.out.sx HA.out 27,HI.out.sx HA.out 28,HI.out.sx HA.out 29,HI.out.sx HA.out 30,x31,x32,x33,trivial⟩ rfl),(av (l:=(Lvv fQ ed dn)) (i:=0) (by omega) mi.out),(cZ K3.out),(s0 u0P.out),(s0 u0Q.out),(s0 u0R.out)⟩
 rintro a' W1 ⟨wo,wu,bn,mf,u01,bq,u02,u03,bu,fQ,ed,dn,rfl,z0,z1,z2,z3,z4⟩;obtain ⟨p8,K3,u0P,u0Q,u0R⟩:=bI z0 z1 z2 z3 z4;clear z0 z1 z2 z3 z4;simp only[aV,List.setIfInBounds_toArray,List.set_cons_zero,List.set_cons_succ];go_wp2;obtain ⟨pq,ol,oM,l5,l6,lg,lv,ky,kz⟩:=bC K3.out rfl rfl rfl rfl rfl rfl rfl rfl rfl;exact bodyPost_ret (v:=(Qvv fQ ed dn)) (by simp[Lvv,QS.l,Qvv,QS.v,results,results44,go_sem,pq,ol,oM,l5,l6,lg,lv,ky,kz]) rfl ⟨_,_,_,rfl,u0P.out,u0Q.out,u0R.out,p8.out⟩
theorem uW (xa xb xc ya yb yc za zb zc ka kb kc kd:Rat)(q1a q1b q1c:QS)(q2a q2b q2c:QS)(q3a q3b q3c:QS)(w:World)  (h1:KPl 44 ya yb yc za zb zc ka kb kc)(h2:KDot 42 xa xb xc ka kb kc kd)(r1a:FQ w q1a xa)(r1b:FQ w q1b xb)(r1c:FQ w q1c xc)(r2a:FQ w q2a ya)(r2b:FQ w q2b yb)(r2c:FQ w q2c yc)(r3a:FQ w q3a za)(r3b:FQ w q3b zb)(r3c:FQ w q3c zc) :
 Calls Tryz.prog 45 #[(Qvv q1a q1b q1c),(Qvv q2a q2b q2c),(Qvv q3a q3b q3c)] w (RQ w kd):=by
 dsimp only[Qvv];obtain ⟨C1,C2,R1a,R1b,R1c,R2a,R2b,R2c,R3a⟩:=bR h1 h2 r1a r1b r1c r2a r2b r2c r3a;have R3b:=hid r3b;have R3c:=hid r3c;clear h1 h2 r1a r1b r1c r2a r2b r2c r3a r3b r3c;go_enter func45,ntmps45
 go_upto_region 1 with fail
 refine ak w [((Lvv q1a q1b q1c).toArray,63),((Lvv q2a q2b q2c).toArray,63),((Lvv q3a q3b q3c).toArray,63),(#[.bool false,.slice none 0 0,.slice none 0 0],61)] rfl ?_;rintro W0 ⟨k1,k2,k3,k4,hb⟩;have ww:=hid (show Below w.heap.size w W0 from hb);obtain ⟨R1a,R1b,R1c,R2a,R2b,R2c,R3a,R3b,R3c⟩:=dm ww.out R1a R1b R1c R2a R2b R2c R3a R3b R3c;obtain ⟨K1,K2,K3,K4⟩:=aP k1 k2 k3 k4;clear k1 k2 k3 k4 hb;go_wp2_with fail
 refine aB (fun a0 a' V=>∃ (u04:QS) (u05:QS) (u06:QS) (wo:QS),a'=⟨aV [(7,Qvv q1a q1b q1c),(8,Qvv q2a q2b q2c),(9,Qvv q3a q3b q3c),(10,Qvv u04 u05 u06),(11,wo.v)] a0.tmps,a0.defers⟩∧Below w.heap.size w V∧SBk V (w.heap.size+1+1+1) wo.l.toArray 61∧FQ V wo kd) ?_ ?_
 · refine ay (by kernel_rfl) 5 1 (fun i=>[7,8,9,10,11].getD i 0) (RelR [Rel.val (Qvv q1a q1b q1c),Rel.val (Qvv q2a q2b q2c),Rel.val (Qvv q3a q3b q3c),Rel.qv ka kb kc,Rel.q kd]) (fun W=>Below W0.heap.size W0 W) (fun _ _=>True) (by kernel_rfl) (by kernel_rfl) (by kernel_rfl) trivial (Below.refl _ _).drew ?_ ?_
   · intro u6 a W i hI hD hrd him
     obtain ⟨HI,Hr⟩:=aD hI hrd;clear hI hrd hD;have y3:a.tmps[3]? = some (.pointer (some ⟨w.heap.size,0,none⟩)):=HI.out.rest 3 (by decide);have y4:a.tmps[4]? = some (.pointer (some ⟨w.heap.size+1,0,none⟩)):=HI.out.rest 4 (by decide);have y5:a.tmps[5]? = some (.pointer (some ⟨w.heap.size+1+1,0,none⟩)):=HI.out.rest 5 (by decide);obtain⟨dx,dz,dX,u0g,u0h,u0i,u0j,u0k,u0l⟩:=dV (K1.out.below HI.out.world);obtain⟨kE,kK,kM,u0a,u0b,u0c,u0d,u0e,u0f⟩:=dV (K2.out.below HI.out.world);obtain⟨pq,ol,oM,l5,l6,lg,lv,ky,kz⟩:=dV (K3.out.below HI.out.world);have X1:RV _ u6 a 1 8 (Qvv q2a q2b q2c):=HI.out.rh;have X2:RV _ u6 a 2 9 (Qvv q3a q3b q3c):=HI.out.rh;have X0:RV _ u6 a 0 7 (Qvv q1a q1b q1c):=HI.out.rh
     match i,him,Hr with
     | 0,_,Hi|1,_,Hi|2,_,Hi =>
       refine ax rfl fun K' hK=>?_;go_simp;exact hK.out _ _ ⟨HI.out.pv Hi.out rfl,trivial⟩
     | 3,_,Hi =>
       have x1:=X1.g Hi.out (by kernel_rfl);have x2:=X2.g Hi.out (by kernel_rfl);refine ax rfl fun K' hK=>?_;go_simp;with_reducible refine(C1.out _ _ _ _ _ _ _ (R2a.out.below HI.out.world) (R2b.out.below HI.out.world) (R2c.out.below HI.out.world) (R3a.out.below HI.out.world) (R3b.out.below HI.out.world) (R3c.out.below HI.out.world)).mono ?_
       rintro e W' ⟨u04,u05,u06,rfl,rn1_3a,rn1_3b,rn1_3c,hb⟩;exact hK.out _ _ ⟨HI.out.pc Hi.out hb ⟨u04,u05,u06,rfl,rn1_3a,rn1_3b,rn1_3c⟩,trivial⟩
     | 4,_,Hi =>
       have x0:=X0.g Hi.out (by kernel_rfl);obtain⟨u04,u05,u06,x3,u0S,u0T,u0U⟩:=qAtv HI.out 3 10 Hi.out (by kernel_rfl);dsimp only[Qvv]at x3;refine ax rfl fun K' hK=>?_;go_simp;with_reducible refine(C2.out _ _ _ _ _ _ _ (R1a.out.below HI.out.world) (R1b.out.below HI.out.world) (R1c.out.below HI.out.world) u0S.out u0T.out u0U.out).mono ?_
       rintro e W' ⟨wo,rfl,kV,hb⟩;exact hK.out _ _ ⟨HI.out.pc Hi.out hb ⟨wo,rfl,kV⟩,trivial⟩
     | n+5,h,_=>exact absurd h (by omega)
   · intro u6 a W hI hD w9
     obtain⟨u04,u05,u06,x3,u0S,u0T,u0U⟩:=zP hI w9 3 10;obtain⟨wo,x4,rV⟩:=qEnd hI w9 4 11;obtain ⟨wz,HI,HA⟩:=ae hI.world hI w9;clear hI w9;obtain ⟨mi,K4⟩:=aD (ww.out.trans (wz.out.mono ww.out.size)) (K4.out.below wz.out);have RKa:=u0S;have RKb:=u0T;have RKc:=u0U;have RD:=rV;obtain⟨u0q,u0r,u0s⟩:=cells3 K4.out;obtain⟨u1x,u1y,u1z⟩:=frz3 K4.out;have y6:a.tmps[6]? = some (.pointer (some ⟨w.heap.size+1+1+1,0,none⟩)):=HI.out.rest 6 (by decide);dsimp only[QS.v]at x4;refine aL (t:=0) ?_;refine ax rfl fun K' hK=>?_;go_simp;refine hK.out _ _ ?_;clear hK;refine aR ?_;rw[← dW];have s0:∀ {q':QS} {x':Rat},FQ W q' x'→FQ (storeAll W (w.heap.size+1+1+1) 0 wo.l) q' x':=fun h'=>dB _ 0 h' K4.out (by simp[bZ,Lvv,QS.l]) (by simp[bD,Lvv,QS.l]);exact⟨rfl,u04,u05,u06,wo,(HI.out.finx ⟨HI.out.sx HA.out 0,HI.out.sx HA.out 1,HI.out.sx HA.out 2,x3,x4,trivial⟩ rfl),(av (l:=wo.l) (i:=0) (by omega) mi.out),(dK K4.out),(s0 RD.out)⟩
 rintro a' W1 ⟨u04,u05,u06,wo,rfl,z0,z1,z2⟩;obtain ⟨p8,K4,RD⟩:=ae z0 z1 z2;clear z0 z1 z2;simp only[aV,List.setIfInBounds_toArray,List.set_cons_zero,List.set_cons_succ];go_wp2;obtain ⟨u0q,u0r,u0s⟩:=ag K4.out rfl rfl rfl;exact bodyPost_ret (v:=wo.v) (by simp[Lvv,QS.l,Qvv,QS.v,results,results45,go_sem,u0q,u0r,u0s]) rfl ⟨_,rfl,RD.out,p8.out⟩
