/- texts -/
import Derived.Test.YtnpkghpfmieboaaGreatDoorMz33q
open Go.Proofs.Tryz
set_option maxRecDepth 100000
set_option maxHeartbeats 20000000
open Go.Lib (hid)
namespace Go.Proofs.YtnpkghpfmieboaaGreatDoor
open Go.RowKit Go.Gb
set_option linter.unusedSimpArgs false
abbrev RVV (W:World) (xa xb xc ya yb yc:Rat) (er:Int):Ending→World→Prop:=fun e w'=>∃ qa qb qc qd qe qf:QS,e=.returned (.tuple #[.agg #[.bool qa.b,.slice qa.a qa.n qa.c,.slice qa.e qa.m qa.d,.bool qb.b,.slice qb.a qb.n qb.c,.slice qb.e qb.m qb.d,.bool qc.b,.slice qc.a qc.n qc.c,.slice qc.e qc.m qc.d],.agg #[.bool qd.b,.slice qd.a qd.n qd.c,.slice qd.e qd.m qd.d,.bool qe.b,.slice qe.a qe.n qe.c,.slice qe.e qe.m qe.d,.bool qf.b,.slice qf.a qf.n qf.c,.slice qf.e qf.m qf.d],.int .i64 er])∧FQ w' qa xa∧FQ w' qb xb∧FQ w' qc xc∧FQ w' qd ya∧FQ w' qe yb∧FQ w' qf yc∧Below W.heap.size W w'
abbrev KVV (f:Nat) (v0 v1:Value) (xa xb xc ya yb yc:Rat) (er:Int):Prop:=∀ W:World,Calls Tryz.prog f #[v0,v1] W (RVV W xa xb xc ya yb yc er)
abbrev KTj (f:Nat) (x0a x0b x0c x1:Rat) (xa xb xc:Rat):Prop:=∀ (q0a q0b q0c q1:QS) (W:World),FQ W q0a x0a→FQ W q0b x0b→FQ W q0c x0c→FQ W q1 x1→Calls Tryz.prog f #[.agg #[.bool q0a.b,.slice q0a.a q0a.n q0a.c,.slice q0a.e q0a.m q0a.d,.bool q0b.b,.slice q0b.a q0b.n q0b.c,.slice q0b.e q0b.m q0b.d,.bool q0c.b,.slice q0c.a q0c.n q0c.c,.slice q0c.e q0c.m q0c.d],.agg #[.bool q1.b,.slice q1.a q1.n q1.c,.slice q1.e q1.m q1.d]] W (Rv3 W xa xb xc)
theorem uI (x y z:ByteArray)(xa xb xc:Rat)(b1 b2 b3:Bool)  (w:World)  (h1:KSb 51 (.string x) xa b1)(h2:KSb 51 (.string y) xb b2)(h3:KSb 51 (.string z) xc b3)  :
 Calls Tryz.prog 25 #[.agg #[.string x,.string y,.string z]] w (RVb w xa xb xc (b1&&b2&&b3)):=by
 cases b1<;>cases b2<;>(
  obtain ⟨C1,C2,C3⟩:=ax h1 h2 h3;clear h1 h2 h3;go_enter func25,ntmps25
  go_upto_region 1 with fail
  refine ak w [(#[.string x,.string y,.string z],24),(#[.bool false,.slice none 0 0,.slice none 0 0,.bool false,.slice none 0 0,.slice none 0 0,.bool false,.slice none 0 0,.slice none 0 0],59)] rfl ?_;rintro W0 ⟨k1,k2,hb⟩;have wo:=hid (show Below w.heap.size w W0 from hb);have K1:=hid k1;have K2:=hid k2;clear k1 k2 hb;have dz:=K1.o.cell (i:=0) rfl;go_wp2_with fail
  with_reducible refine(C1.o _).mono ?_
  rintro e W1 ⟨af,rfl,u0H,hb⟩;clear dz;obtain ⟨K1,K2⟩:=aQ hb K1 K2;have p8:=hbt wo hb;have RA:=hid u0H;clear hb u0H;go_upto_region 2 with fail
  refine ak W1 [(af.l.toArray,57)] rfl ?_;have L1:=K1.o.lt;have L2:=K2.o.lt;have L3:=p8.o.size;rintro W2 ⟨k3,hb⟩;have hb:Below W1.heap.size W1 W2:=hb;obtain ⟨K1,K2,RA⟩:=bL hb K1 K2 RA;have HB2:=hbt p8 hb;have K3:=hid k3;clear k3 hb;have dX:=K1.o.cell (i:=1) rfl;go_wp2_with fail
  with_reducible refine(C2.o _).mono ?_
  rintro e W3 ⟨u00,rfl,u0I,hb⟩;clear dX;obtain ⟨K1,K2,K3,RA⟩:=aW hb K1 K2 K3 RA;have HB3:=hbt HB2 hb;have RB:=hid u0I;clear hb u0I;go_upto_region 3 with fail
  refine ak W3 [(u00.l.toArray,57)] rfl ?_;have L4:=K1.o.lt;have L5:=K2.o.lt;have L6:=K3.o.lt;have L7:=HB3.o.size;rintro W4 ⟨k4,hb⟩;have hb:Below W3.heap.size W3 W4:=hb;obtain ⟨K1,K2,K3,RA,RB⟩:=bG hb K1 K2 K3 RA RB;have HB4:=hbt HB3 hb;have K4:=hid k4;clear k4 hb;have dY:=K1.o.cell (i:=2) rfl;go_wp2_with fail
  with_reducible refine(C3.o _).mono ?_
  rintro e W5 ⟨u01,rfl,u0K,hb⟩;clear dY;obtain ⟨K1,K2,K3,K4,RA,RB⟩:=cu hb K1 K2 K3 K4 RA RB;have HB5:=hbt HB4 hb;have RC:=hid u0K;clear hb u0K;go_upto_region 4 with fail
  refine ak W5 [(u01.l.toArray,57)] rfl ?_;have L8:=K1.o.lt;have L9:=K2.o.lt;have L10:=K3.o.lt;have L11:=K4.o.lt;have L12:=HB5.o.size;rintro W6 ⟨k5,hb⟩;have hb:Below W5.heap.size W5 W6:=hb;obtain ⟨K2,K3,K4,RA,RB,RC⟩:=cu hb K2 K3 K4 RA RB RC;have HB6:=hbt HB5 hb;have K5:=hid k5;clear k5 hb;obtain ⟨sj,sw,r9⟩:=ah K3.o rfl rfl rfl;obtain ⟨u1a,u1b,u1c⟩:=ah K4.o rfl rfl rfl;obtain ⟨u1d,u1e,u1f⟩:=ah K5.o rfl rfl rfl;obtain ⟨lv,kr,ky,u02,u03,u04,u05,u06,u07⟩:=bT K2.o rfl rfl rfl rfl rfl rfl rfl rfl rfl;obtain ⟨u0P,u0Q,u0R,u1g,u1h,u1i,u1j,u1k,u1l⟩:=fH K2.o;go_wp2
  exact bodyPost_ret (v:=.tuple #[(Qvv af u00 u01),.bool _]) (by simp[Lvv,QS.l,Qvv,QS.v,results,results25,go_sem,lv,kr,ky,u02,u03,u04,u05,u06,u07]) rfl ⟨_,_,_,rfl,(bE (Lvv af u00 u01) 0 RA.o K2.o (by simp[bS,Lvv,QS.l]) (by simp[bi,Lvv,QS.l])),(bE (Lvv af u00 u01) 0 RB.o K2.o (by simp[bS,Lvv,QS.l]) (by simp[bi,Lvv,QS.l])),(bE (Lvv af u00 u01) 0 RC.o K2.o (by simp[bS,Lvv,QS.l]) (by simp[bi,Lvv,QS.l])),(au (l:=(Lvv af u00 u01)) (i:=0) (by omega) HB6.o)⟩)
theorem z4e (xa xb xc:Rat)(sao sbo sco:ByteArray)(q1a q1b q1c:QS)(w:World)  (h1:KP1 40 xa (.string sao))(h2:KP1 40 xb (.string sbo))(h3:KP1 40 xc (.string sco))(r1a:FQ w q1a xa)(r1b:FQ w q1b xb)(r1c:FQ w q1c xc) :
 CR 39 #[(Qvv q1a q1b q1c)] w (.agg #[.string sao,.string sbo,.string sco]):=by
 dsimp only[Qvv];obtain ⟨C1,C2,C3,R1a,R1b,R1c⟩:=cZ h1 h2 h3 r1a r1b r1c;clear h1 h2 h3 r1a r1b r1c;go_enter func39,ntmps39
 go_upto_region 1 with fail
 refine ak w [((Lvv q1a q1b q1c).toArray,59),(#[.string ⟨#[]⟩,.string ⟨#[]⟩,.string ⟨#[]⟩],24)] rfl ?_;rintro W0 ⟨k1,k2,hb⟩;have wo:=hid (show Below w.heap.size w W0 from hb);obtain ⟨R1a,R1b,R1c⟩:=bL wo.o R1a R1b R1c;obtain ⟨K1,K2⟩:=aD k1 k2;clear k1 k2 hb;go_wp2_with fail
 refine ay (fun a0 a' V=>a'=⟨aR [(3,.pointer (some ⟨w.heap.size,0,none⟩)),(4,q1a.v),(5,.string sao),(6,.pointer (some ⟨w.heap.size,3,none⟩)),(7,q1b.v),(8,.string sbo),(9,.pointer (some ⟨w.heap.size,6,none⟩)),(10,q1c.v),(11,.string sco),(12,.agg #[.string sao,.string sbo,.string sco])] a0.tmps,a0.defers⟩∧Below w.heap.size w V∧SBk V (w.heap.size+1) #[.string sao,.string sbo,.string sco] 24) ?_ ?_
 · refine aC 10 1 [3,4,5,6,7,8,9,10,11,12] [Rel.val (.pointer (some ⟨w.heap.size,0,none⟩)),Rel.val (q1a.v),Rel.val (.string sao),Rel.val (.pointer (some ⟨w.heap.size,3,none⟩)),Rel.val (q1b.v),Rel.val (.string sbo),Rel.val (.pointer (some ⟨w.heap.size,6,none⟩)),Rel.val (q1c.v),Rel.val (.string sco),Rel.val (.agg #[.string sao,.string sbo,.string sco])] ?_ ?_
   · intro pq a W i HI hD Hr him
     have y1:=HI.o.rst 1 rfl;obtain⟨dz,dX,dY,u08,u09,u0a,u0b,u0c,u0d⟩:=di (K1.o.below HI.o.world);obtain⟨X0,X1,X3,X4,X6,X7⟩:=HI.o.g6 0 3 1 4 3 6 4 7 6 9 7 10;obtain⟨X2,X5,X8⟩:=HI.o.g3 2 5 5 8 8 11
     match i,him,Hr with
     | 0,_,Hi|1,_,Hi|3,_,Hi|4,_,Hi|6,_,Hi|7,_,Hi|9,_,Hi =>
       try have x0:=X0.t Hi.o
       try have x3:=X3.t Hi.o
       try have x6:=X6.t Hi.o
       try have x2:=X2.t Hi.o
       try have x5:=X5.t Hi.o
       try have x8:=X8.t Hi.o
       refine av rfl fun K' hK=>?_;go_simp;exact hK.o _ _ (HI.o.pw Hi.o)
     | 2,_,Hi =>
       have x1:=X1.q Hi.o;refine av rfl fun K' hK=>?_;go_simp;with_reducible refine(C1.o _ _ (R1a.o.below HI.o.world)).mono ?_
       rintro e W' ⟨rfl,hb⟩;exact hK.o _ _ ⟨HI.o.pc Hi.o hb rfl,trivial⟩
     | 5,_,Hi =>
       have x4:=X4.q Hi.o;refine av rfl fun K' hK=>?_;go_simp;with_reducible refine(C2.o _ _ (R1b.o.below HI.o.world)).mono ?_
       rintro e W' ⟨rfl,hb⟩;exact hK.o _ _ ⟨HI.o.pc Hi.o hb rfl,trivial⟩
     | 8,_,Hi =>
       have x7:=X7.q Hi.o;refine av rfl fun K' hK=>?_;go_simp;with_reducible refine(C3.o _ _ (R1c.o.below HI.o.world)).mono ?_
       rintro e W' ⟨rfl,hb⟩;exact hK.o _ _ ⟨HI.o.pc Hi.o hb rfl,trivial⟩
     | n+10,h,_=>exact absurd h (by omega)
   · intro pq a W HI hD HA
     have x9:a.tmps[12]? = some (.agg #[.string sao,.string sbo,.string sco]):=HI.o.sx HA.o 9;have si:=hid HI.o.world;obtain ⟨ol,K2⟩:=aD (wo.o.trans (si.o.mono wo.o.size)) (K2.o.below si.o);obtain⟨lv,kr,ky⟩:=cells3 K2.o;obtain⟨u0P,u0Q,u0R⟩:=frz3 K2.o;have y2:=HI.o.rst 2 rfl;refine aH (t:=0) ?_;refine av rfl fun K' hK=>?_;go_simp;refine hK.o _ _ ?_;clear hK;refine aO ?_;rw[← eD];exact⟨rfl,(HI.o.finx ⟨HI.o.sx HA.o 0,HI.o.sx HA.o 1,HI.o.sx HA.o 2,HI.o.sx HA.o 3,HI.o.sx HA.o 4,HI.o.sx HA.o 5,HI.o.sx HA.o 6,HI.o.sx HA.o 7,HI.o.sx HA.o 8,x9,trivial⟩ rfl),(au (l:=[.string sao,.string sbo,.string sco]) (i:=0) (by omega) ol.o),(dC K2.o)⟩
 rintro a' W1 ⟨rfl,z0,z1⟩;have p8:=hid z0;have K2:=hid z1;clear z0 z1;simp only[aR,List.setIfInBounds_toArray,List.set_cons_zero,List.set_cons_succ];go_wp2;obtain ⟨lv,kr,ky⟩:=ah K2.o rfl rfl rfl;exact bodyPost_ret (v:=.agg #[.string sao,.string sbo,.string sco]) (by simp[results,results39,go_sem,lv,kr,ky]) rfl ⟨rfl,p8.o⟩
theorem z19 (xa xb xc ya yb yc za zb zc:Rat)(q1a q1b q1c:QS)(q2a q2b q2c:QS)(w:World)  (h1:KQ2 61 xa ya za)(h2:KQ2 61 xb yb zb)(h3:KQ2 61 xc yc zc)(r1a:FQ w q1a xa)(r1b:FQ w q1b xb)(r1c:FQ w q1c xc)(r2a:FQ w q2a ya)(r2b:FQ w q2b yb)(r2c:FQ w q2c yc) :
 Calls Tryz.prog 64 #[(Qvv q1a q1b q1c),(Qvv q2a q2b q2c)] w (Rv3 w za zb zc):=by
 dsimp only[Qvv];obtain ⟨C1,C2,C3,R1a,R1b,R1c,R2a,R2b,R2c⟩:=bK h1 h2 h3 r1a r1b r1c r2a r2b r2c;clear h1 h2 h3 r1a r1b r1c r2a r2b r2c;go_enter func64,ntmps64
 go_upto_region 1 with fail
 refine ak w [((Lvv q1a q1b q1c).toArray,59),((Lvv q2a q2b q2c).toArray,59),(#[.bool false,.slice none 0 0,.slice none 0 0,.bool false,.slice none 0 0,.slice none 0 0,.bool false,.slice none 0 0,.slice none 0 0],59)] rfl ?_;rintro W0 ⟨k1,k2,k3,hb⟩;have wo:=hid (show Below w.heap.size w W0 from hb);obtain ⟨R1a,R1b,R1c,R2a,R2b,R2c⟩:=cu wo.o R1a R1b R1c R2a R2b R2c;obtain ⟨K1,K2,K3⟩:=ax k1 k2 k3;clear k1 k2 k3 hb;go_wp2_with fail
 refine ay (fun a0 a' V=>∃ (u6:QS) (w9:QS) (wu:QS) (ww:QS) (wy:QS) (wz:QS),a'=⟨aR [(5,.pointer (some ⟨w.heap.size,0,none⟩)),(6,q1a.v),(7,.pointer (some ⟨w.heap.size+1,0,none⟩)),(8,q2a.v),(9,u6.v),(10,.pointer (some ⟨w.heap.size,3,none⟩)),(11,q1b.v),(12,.pointer (some ⟨w.heap.size+1,3,none⟩)),(13,q2b.v),(14,w9.v),(15,.pointer (some ⟨w.heap.size,6,none⟩)),(16,q1c.v),(17,.pointer (some ⟨w.heap.size+1,6,none⟩)),(18,q2c.v),(19,wu.v),(20,Qvv ww wy wz)] a0.tmps,a0.defers⟩∧Below w.heap.size w V∧SBk V (w.heap.size+1+1) (Lvv ww wy wz).toArray 59∧FQ V ww za∧FQ V wy zb∧FQ V wz zc) ?_ ?_
 · refine aC 16 1 [5,6,7,8,9,10,11,12,13,14,15,16,17,18,19,20] [Rel.val (.pointer (some ⟨w.heap.size,0,none⟩)),Rel.val (q1a.v),Rel.val (.pointer (some ⟨w.heap.size+1,0,none⟩)),Rel.val (q2a.v),Rel.q za,Rel.val (.pointer (some ⟨w.heap.size,3,none⟩)),Rel.val (q1b.v),Rel.val (.pointer (some ⟨w.heap.size+1,3,none⟩)),Rel.val (q2b.v),Rel.q zb,Rel.val (.pointer (some ⟨w.heap.size,6,none⟩)),Rel.val (q1c.v),Rel.val (.pointer (some ⟨w.heap.size+1,6,none⟩)),Rel.val (q2c.v),Rel.q zc,Rel.qv za zb zc] ?_ ?_
   · intro pq a W i HI hD Hr him
     obtain⟨y2,y3⟩:=HI.o.s2 2 3;obtain⟨dz,dX,dY,u08,u09,u0a,u0b,u0c,u0d⟩:=di (K1.o.below HI.o.world);obtain⟨lv,kr,ky,u02,u03,u04,u05,u06,u07⟩:=di (K2.o.below HI.o.world);obtain⟨X0,X2,X1,X3,X5,X7⟩:=HI.o.g6 0 5 2 7 1 6 3 8 5 10 7 12;obtain⟨X6,X8,X10,X12,X11,X13⟩:=HI.o.g6 6 11 8 13 10 15 12 17 11 16 13 18
     match i,him,Hr with
     | 0,_,Hi|1,_,Hi|2,_,Hi|3,_,Hi|5,_,Hi|6,_,Hi|7,_,Hi|8,_,Hi|10,_,Hi|11,_,Hi|12,_,Hi|13,_,Hi =>
       try have x0:=X0.t Hi.o
       try have x2:=X2.t Hi.o
       try have x5:=X5.t Hi.o
       try have x7:=X7.t Hi.o
       try have x10:=X10.t Hi.o
       try have x12:=X12.t Hi.o
       refine av rfl fun K' hK=>?_;go_simp;exact hK.o _ _ (HI.o.pw Hi.o)
     | 4,_,Hi =>
       have x1:=X1.q Hi.o;have x3:=X3.q Hi.o;refine av rfl fun K' hK=>?_;go_simp;with_reducible refine(C1.o _ _ _ (R1a.o.below HI.o.world) (R2a.o.below HI.o.world)).mono ?_
       rintro e W' ⟨u6,rfl,cO,hb⟩;exact hK.o _ _ ⟨HI.o.pc Hi.o hb ⟨u6,rfl,cO⟩,trivial⟩
     | 9,_,Hi =>
       have x6:=X6.q Hi.o;have x8:=X8.q Hi.o;refine av rfl fun K' hK=>?_;go_simp;with_reducible refine(C2.o _ _ _ (R1b.o.below HI.o.world) (R2b.o.below HI.o.world)).mono ?_
       rintro e W' ⟨w9,rfl,bg,hb⟩;exact hK.o _ _ ⟨HI.o.pc Hi.o hb ⟨w9,rfl,bg⟩,trivial⟩
     | 14,_,Hi =>
       have x11:=X11.q Hi.o;have x13:=X13.q Hi.o;refine av rfl fun K' hK=>?_;go_simp;with_reducible refine(C3.o _ _ _ (R1c.o.below HI.o.world) (R2c.o.below HI.o.world)).mono ?_
       rintro e W' ⟨wu,rfl,u0e,hb⟩;exact hK.o _ _ ⟨HI.o.pc Hi.o hb ⟨wu,rfl,u0e⟩,trivial⟩
     | 15,_,Hi =>
       obtain⟨u6,x4,rf⟩:=qAt HI.o 4 9 Hi.o (by kernel_rfl);dsimp only[QS.v]at x4;obtain⟨w9,x9,rM⟩:=qAt HI.o 9 14 Hi.o (by kernel_rfl);dsimp only[QS.v]at x9;obtain⟨wu,x14,oM⟩:=qAt HI.o 14 19 Hi.o (by kernel_rfl);dsimp only[QS.v]at x14;refine av rfl fun K' hK=>?_;go_simp;exact hK.o _ _ ⟨HI.o.pv Hi.o ⟨u6,w9,wu,rfl,rf.o,rM.o,oM.o⟩,trivial⟩
     | n+16,h,_=>exact absurd h (by omega)
   · intro pq a W HI hD HA
     obtain⟨u6,x4,rf⟩:=qEnd HI.o HA.o 4 9;obtain⟨w9,x9,rM⟩:=qEnd HI.o HA.o 9 14;obtain⟨wu,x14,oM⟩:=qEnd HI.o HA.o 14 19;obtain⟨ww,wy,wz,x15,u0i,u0j,u0k⟩:=pK HI.o HA.o 15 20;have si:=hid HI.o.world;obtain ⟨ol,K3⟩:=aD (wo.o.trans (si.o.mono wo.o.size)) (K3.o.below si.o);have RA:=rf;have RB:=rM;have RC:=oM;have bn:=u0i;have bq:=u0j;have bu:=u0k;obtain⟨sj,sw,r9,oV,mf,mi,l5,l6,lc⟩:=di K3.o;obtain⟨u0f,u0g,u0h,u0l,u0m,u0n,u0o,u0p,u0q⟩:=frz9 K3.o;have y4:=HI.o.rst 4 rfl;dsimp only[Qvv]at x15;refine aH (t:=0) ?_;refine av rfl fun K' hK=>?_;go_simp;refine hK.o _ _ ?_;clear hK;refine aO ?_;rw[← gK];have s0:∀ {q':QS} {x':Rat},FQ W q' x'→FQ (storeAll W (w.heap.size+1+1) 0 (Lvv ww wy wz)) q' x':=fun h'=>bE _ 0 h' K3.o (by simp[bS,Lvv,QS.l]) (by simp[bi,Lvv,QS.l]);exact⟨rfl,u6,w9,wu,ww,wy,wz,(HI.o.finx ⟨HI.o.sx HA.o 0,HI.o.sx HA.o 1,HI.o.sx HA.o 2,HI.o.sx HA.o 3,x4,HI.o.sx HA.o 5,HI.o.sx HA.o 6,HI.o.sx HA.o 7,HI.o.sx HA.o 8,x9,HI.o.sx HA.o 10,HI.o.sx HA.o 11,HI.o.sx HA.o 12,HI.o.sx HA.o 13,x14,x15,trivial⟩ rfl),(au (l:=(Lvv ww wy wz)) (i:=0) (by omega) ol.o),(cK K3.o),(s0 bn.o),(s0 bq.o),(s0 bu.o)⟩
 rintro a' W1 ⟨u6,w9,wu,ww,wy,wz,rfl,z0,z1,z2,z3,z4⟩;obtain ⟨p8,K3,bn,bq,bu⟩:=bA z0 z1 z2 z3 z4;clear z0 z1 z2 z3 z4;simp only[aR,List.setIfInBounds_toArray,List.set_cons_zero,List.set_cons_succ];go_wp2;obtain ⟨sj,sw,r9,oV,mf,mi,l5,l6,lc⟩:=bT K3.o rfl rfl rfl rfl rfl rfl rfl rfl rfl;exact bodyPost_ret (v:=(Qvv ww wy wz)) (by simp[Lvv,QS.l,Qvv,QS.v,results,results64,go_sem,sj,sw,r9,oV,mf,mi,l5,l6,lc]) rfl ⟨_,_,_,rfl,bn.o,bq.o,bu.o,p8.o⟩
theorem zy (xa xb xc ya yb yc za zb zc:Rat)(q1a q1b q1c:QS)(q2a q2b q2c:QS)(w:World)  (h1:KQ2 53 xa ya za)(h2:KQ2 53 xb yb zb)(h3:KQ2 53 xc yc zc)(r1a:FQ w q1a xa)(r1b:FQ w q1b xb)(r1c:FQ w q1c xc)(r2a:FQ w q2a ya)(r2b:FQ w q2b yb)(r2c:FQ w q2c yc) :
 Calls Tryz.prog 37 #[(Qvv q1a q1b q1c),(Qvv q2a q2b q2c)] w (Rv3 w za zb zc):=by
 dsimp only[Qvv];obtain ⟨C1,C2,C3,R1a,R1b,R1c,R2a,R2b,R2c⟩:=bK h1 h2 h3 r1a r1b r1c r2a r2b r2c;clear h1 h2 h3 r1a r1b r1c r2a r2b r2c;go_enter func37,ntmps37
 go_upto_region 1 with fail
 refine ak w [((Lvv q1a q1b q1c).toArray,59),((Lvv q2a q2b q2c).toArray,59),(#[.bool false,.slice none 0 0,.slice none 0 0,.bool false,.slice none 0 0,.slice none 0 0,.bool false,.slice none 0 0,.slice none 0 0],59)] rfl ?_;rintro W0 ⟨k1,k2,k3,hb⟩;have wo:=hid (show Below w.heap.size w W0 from hb);obtain ⟨R1a,R1b,R1c,R2a,R2b,R2c⟩:=cu wo.o R1a R1b R1c R2a R2b R2c;obtain ⟨K1,K2,K3⟩:=ax k1 k2 k3;clear k1 k2 k3 hb;go_wp2_with fail
 refine ay (fun a0 a' V=>∃ (u6:QS) (w9:QS) (wu:QS) (ww:QS) (wy:QS) (wz:QS),a'=⟨aR [(5,.pointer (some ⟨w.heap.size,0,none⟩)),(6,q1a.v),(7,.pointer (some ⟨w.heap.size+1,0,none⟩)),(8,q2a.v),(9,u6.v),(10,.pointer (some ⟨w.heap.size,3,none⟩)),(11,q1b.v),(12,.pointer (some ⟨w.heap.size+1,3,none⟩)),(13,q2b.v),(14,w9.v),(15,.pointer (some ⟨w.heap.size,6,none⟩)),(16,q1c.v),(17,.pointer (some ⟨w.heap.size+1,6,none⟩)),(18,q2c.v),(19,wu.v),(20,Qvv ww wy wz)] a0.tmps,a0.defers⟩∧Below w.heap.size w V∧SBk V (w.heap.size+1+1) (Lvv ww wy wz).toArray 59∧FQ V ww za∧FQ V wy zb∧FQ V wz zc) ?_ ?_
 · refine aC 16 1 [5,6,7,8,9,10,11,12,13,14,15,16,17,18,19,20] [Rel.val (.pointer (some ⟨w.heap.size,0,none⟩)),Rel.val (q1a.v),Rel.val (.pointer (some ⟨w.heap.size+1,0,none⟩)),Rel.val (q2a.v),Rel.q za,Rel.val (.pointer (some ⟨w.heap.size,3,none⟩)),Rel.val (q1b.v),Rel.val (.pointer (some ⟨w.heap.size+1,3,none⟩)),Rel.val (q2b.v),Rel.q zb,Rel.val (.pointer (some ⟨w.heap.size,6,none⟩)),Rel.val (q1c.v),Rel.val (.pointer (some ⟨w.heap.size+1,6,none⟩)),Rel.val (q2c.v),Rel.q zc,Rel.qv za zb zc] ?_ ?_
   · intro pq a W i HI hD Hr him
     obtain⟨y2,y3⟩:=HI.o.s2 2 3;obtain⟨dz,dX,dY,u08,u09,u0a,u0b,u0c,u0d⟩:=di (K1.o.below HI.o.world);obtain⟨lv,kr,ky,u02,u03,u04,u05,u06,u07⟩:=di (K2.o.below HI.o.world);obtain⟨X0,X2,X1,X3,X5,X7⟩:=HI.o.g6 0 5 2 7 1 6 3 8 5 10 7 12;obtain⟨X6,X8,X10,X12,X11,X13⟩:=HI.o.g6 6 11 8 13 10 15 12 17 11 16 13 18
     match i,him,Hr with
     | 0,_,Hi|1,_,Hi|2,_,Hi|3,_,Hi|5,_,Hi|6,_,Hi|7,_,Hi|8,_,Hi|10,_,Hi|11,_,Hi|12,_,Hi|13,_,Hi =>
       try have x0:=X0.t Hi.o
       try have x2:=X2.t Hi.o
       try have x5:=X5.t Hi.o
       try have x7:=X7.t Hi.o
       try have x10:=X10.t Hi.o
       try have x12:=X12.t Hi.o
       refine av rfl fun K' hK=>?_;go_simp;exact hK.o _ _ (HI.o.pw Hi.o)
     | 4,_,Hi =>
       have x1:=X1.q Hi.o;have x3:=X3.q Hi.o;refine av rfl fun K' hK=>?_;go_simp;with_reducible refine(C1.o _ _ _ (R1a.o.below HI.o.world) (R2a.o.below HI.o.world)).mono ?_
       rintro e W' ⟨u6,rfl,cO,hb⟩;exact hK.o _ _ ⟨HI.o.pc Hi.o hb ⟨u6,rfl,cO⟩,trivial⟩
     | 9,_,Hi =>
       have x6:=X6.q Hi.o;have x8:=X8.q Hi.o;refine av rfl fun K' hK=>?_;go_simp;with_reducible refine(C2.o _ _ _ (R1b.o.below HI.o.world) (R2b.o.below HI.o.world)).mono ?_
       rintro e W' ⟨w9,rfl,bg,hb⟩;exact hK.o _ _ ⟨HI.o.pc Hi.o hb ⟨w9,rfl,bg⟩,trivial⟩
     | 14,_,Hi =>
       have x11:=X11.q Hi.o;have x13:=X13.q Hi.o;refine av rfl fun K' hK=>?_;go_simp;with_reducible refine(C3.o _ _ _ (R1c.o.below HI.o.world) (R2c.o.below HI.o.world)).mono ?_
       rintro e W' ⟨wu,rfl,u0e,hb⟩;exact hK.o _ _ ⟨HI.o.pc Hi.o hb ⟨wu,rfl,u0e⟩,trivial⟩
     | 15,_,Hi =>
       obtain⟨u6,x4,rf⟩:=qAt HI.o 4 9 Hi.o (by kernel_rfl);dsimp only[QS.v]at x4;obtain⟨w9,x9,rM⟩:=qAt HI.o 9 14 Hi.o (by kernel_rfl);dsimp only[QS.v]at x9;obtain⟨wu,x14,oM⟩:=qAt HI.o 14 19 Hi.o (by kernel_rfl);dsimp only[QS.v]at x14;refine av rfl fun K' hK=>?_;go_simp;exact hK.o _ _ ⟨HI.o.pv Hi.o ⟨u6,w9,wu,rfl,rf.o,rM.o,oM.o⟩,trivial⟩
     | n+16,h,_=>exact absurd h (by omega)
   · intro pq a W HI hD HA
     obtain⟨u6,x4,rf⟩:=qEnd HI.o HA.o 4 9;obtain⟨w9,x9,rM⟩:=qEnd HI.o HA.o 9 14;obtain⟨wu,x14,oM⟩:=qEnd HI.o HA.o 14 19;obtain⟨ww,wy,wz,x15,u0i,u0j,u0k⟩:=pK HI.o HA.o 15 20;have si:=hid HI.o.world;obtain ⟨ol,K3⟩:=aD (wo.o.trans (si.o.mono wo.o.size)) (K3.o.below si.o);have RA:=rf;have RB:=rM;have RC:=oM;have bn:=u0i;have bq:=u0j;have bu:=u0k;obtain⟨sj,sw,r9,oV,mf,mi,l5,l6,lc⟩:=di K3.o;obtain⟨u0f,u0g,u0h,u0l,u0m,u0n,u0o,u0p,u0q⟩:=frz9 K3.o;have y4:=HI.o.rst 4 rfl;dsimp only[Qvv]at x15;refine aH (t:=0) ?_;refine av rfl fun K' hK=>?_;go_simp;refine hK.o _ _ ?_;clear hK;refine aO ?_;rw[← gK];have s0:∀ {q':QS} {x':Rat},FQ W q' x'→FQ (storeAll W (w.heap.size+1+1) 0 (Lvv ww wy wz)) q' x':=fun h'=>bE _ 0 h' K3.o (by simp[bS,Lvv,QS.l]) (by simp[bi,Lvv,QS.l]);exact⟨rfl,u6,w9,wu,ww,wy,wz,(HI.o.finx ⟨HI.o.sx HA.o 0,HI.o.sx HA.o 1,HI.o.sx HA.o 2,HI.o.sx HA.o 3,x4,HI.o.sx HA.o 5,HI.o.sx HA.o 6,HI.o.sx HA.o 7,HI.o.sx HA.o 8,x9,HI.o.sx HA.o 10,HI.o.sx HA.o 11,HI.o.sx HA.o 12,HI.o.sx HA.o 13,x14,x15,trivial⟩ rfl),(au (l:=(Lvv ww wy wz)) (i:=0) (by omega) ol.o),(cK K3.o),(s0 bn.o),(s0 bq.o),(s0 bu.o)⟩
 rintro a' W1 ⟨u6,w9,wu,ww,wy,wz,rfl,z0,z1,z2,z3,z4⟩;obtain ⟨p8,K3,bn,bq,bu⟩:=bA z0 z1 z2 z3 z4;clear z0 z1 z2 z3 z4;simp only[aR,List.setIfInBounds_toArray,List.set_cons_zero,List.set_cons_succ];go_wp2;obtain ⟨sj,sw,r9,oV,mf,mi,l5,l6,lc⟩:=bT K3.o rfl rfl rfl rfl rfl rfl rfl rfl rfl;exact bodyPost_ret (v:=(Qvv ww wy wz)) (by simp[Lvv,QS.l,Qvv,QS.v,results,results37,go_sem,sj,sw,r9,oV,mf,mi,l5,l6,lc]) rfl ⟨_,_,_,rfl,bn.o,bq.o,bu.o,p8.o⟩
theorem zu (xa xb xc k za zb zc:Rat)(q1a q1b q1c:QS)(q2:QS)(w:World)  (h1:KQ2 58 xa k za)(h2:KQ2 58 xb k zb)(h3:KQ2 58 xc k zc)(r1a:FQ w q1a xa)(r1b:FQ w q1b xb)(r1c:FQ w q1c xc)(r2:FQ w q2 k) :
 Calls Tryz.prog 65 #[(Qvv q1a q1b q1c),(QS.v q2)] w (Rv3 w za zb zc):=by
 dsimp only[QS.v,Qvv];obtain ⟨C1,C2,C3,R1a,R1b,R1c,R2⟩:=fF h1 h2 h3 r1a r1b r1c r2;clear h1 h2 h3 r1a r1b r1c r2;go_enter func65,ntmps65
 go_upto_region 1 with fail
 refine ak w [((Lvv q1a q1b q1c).toArray,59),(q2.l.toArray,57),(#[.bool false,.slice none 0 0,.slice none 0 0,.bool false,.slice none 0 0,.slice none 0 0,.bool false,.slice none 0 0,.slice none 0 0],59)] rfl ?_;rintro W0 ⟨k1,k2,k3,hb⟩;have wo:=hid (show Below w.heap.size w W0 from hb);obtain ⟨R1a,R1b,R1c,R2⟩:=aW wo.o R1a R1b R1c R2;obtain ⟨K1,K2,K3⟩:=ax k1 k2 k3;clear k1 k2 k3 hb;go_wp2_with fail
 refine ay (fun a0 a' V=>∃ (fw:QS) (fQ:QS) (ed:QS) (kz:QS) (kK:QS) (kM:QS),a'=⟨aR [(5,.pointer (some ⟨w.heap.size,0,none⟩)),(6,q1a.v),(7,q2.v),(8,fw.v),(9,.pointer (some ⟨w.heap.size,3,none⟩)),(10,q1b.v),(11,q2.v),(12,fQ.v),(13,.pointer (some ⟨w.heap.size,6,none⟩)),(14,q1c.v),(15,q2.v),(16,ed.v),(17,Qvv kz kK kM)] a0.tmps,a0.defers⟩∧Below w.heap.size w V∧SBk V (w.heap.size+1+1) (Lvv kz kK kM).toArray 59∧FQ V kz za∧FQ V kK zb∧FQ V kM zc) ?_ ?_
 · refine aC 13 1 [5,6,7,8,9,10,11,12,13,14,15,16,17] [Rel.val (.pointer (some ⟨w.heap.size,0,none⟩)),Rel.val (q1a.v),Rel.val (q2.v),Rel.q za,Rel.val (.pointer (some ⟨w.heap.size,3,none⟩)),Rel.val (q1b.v),Rel.val (q2.v),Rel.q zb,Rel.val (.pointer (some ⟨w.heap.size,6,none⟩)),Rel.val (q1c.v),Rel.val (q2.v),Rel.q zc,Rel.qv za zb zc] ?_ ?_
   · intro pq a W i HI hD Hr him
     obtain⟨y2,y3⟩:=HI.o.s2 2 3;obtain⟨dz,dX,dY,u08,u09,u0a,u0b,u0c,u0d⟩:=di (K1.o.below HI.o.world);obtain⟨lv,kr,ky⟩:=cells3 (K2.o.below HI.o.world);obtain⟨X0,X1,X2,X4,X5,X6⟩:=HI.o.g6 0 5 1 6 2 7 4 9 5 10 6 11;obtain⟨X8,X9,X10⟩:=HI.o.g3 8 13 9 14 10 15
     match i,him,Hr with
     | 0,_,Hi|1,_,Hi|2,_,Hi|4,_,Hi|5,_,Hi|6,_,Hi|8,_,Hi|9,_,Hi|10,_,Hi =>
       try have x0:=X0.t Hi.o
       try have x4:=X4.t Hi.o
       try have x8:=X8.t Hi.o
       refine av rfl fun K' hK=>?_;go_simp;exact hK.o _ _ (HI.o.pw Hi.o)
     | 3,_,Hi =>
       have x1:=X1.q Hi.o;have x2:=X2.q Hi.o;refine av rfl fun K' hK=>?_;go_simp;with_reducible refine(C1.o _ _ _ (R1a.o.below HI.o.world) (R2.o.below HI.o.world)).mono ?_
       rintro e W' ⟨fw,rfl,u0S,hb⟩;exact hK.o _ _ ⟨HI.o.pc Hi.o hb ⟨fw,rfl,u0S⟩,trivial⟩
     | 7,_,Hi =>
       have x5:=X5.q Hi.o;have x6:=X6.q Hi.o;refine av rfl fun K' hK=>?_;go_simp;with_reducible refine(C2.o _ _ _ (R1b.o.below HI.o.world) (R2.o.below HI.o.world)).mono ?_
       rintro e W' ⟨fQ,rfl,u0T,hb⟩;exact hK.o _ _ ⟨HI.o.pc Hi.o hb ⟨fQ,rfl,u0T⟩,trivial⟩
     | 11,_,Hi =>
       have x9:=X9.q Hi.o;have x10:=X10.q Hi.o;refine av rfl fun K' hK=>?_;go_simp;with_reducible refine(C3.o _ _ _ (R1c.o.below HI.o.world) (R2.o.below HI.o.world)).mono ?_
       rintro e W' ⟨ed,rfl,u0U,hb⟩;exact hK.o _ _ ⟨HI.o.pc Hi.o hb ⟨ed,rfl,u0U⟩,trivial⟩
     | 12,_,Hi =>
       obtain⟨fw,x3,u0r⟩:=qAt HI.o 3 8 Hi.o (by kernel_rfl);dsimp only[QS.v]at x3;obtain⟨fQ,x7,u0s⟩:=qAt HI.o 7 12 Hi.o (by kernel_rfl);dsimp only[QS.v]at x7;obtain⟨ed,x11,u0t⟩:=qAt HI.o 11 16 Hi.o (by kernel_rfl);dsimp only[QS.v]at x11;refine av rfl fun K' hK=>?_;go_simp;exact hK.o _ _ ⟨HI.o.pv Hi.o ⟨fw,fQ,ed,rfl,u0r.o,u0s.o,u0t.o⟩,trivial⟩
     | n+13,h,_=>exact absurd h (by omega)
   · intro pq a W HI hD HA
     obtain⟨fw,x3,u0r⟩:=qEnd HI.o HA.o 3 8;obtain⟨fQ,x7,u0s⟩:=qEnd HI.o HA.o 7 12;obtain⟨ed,x11,u0t⟩:=qEnd HI.o HA.o 11 16;obtain⟨kz,kK,kM,x12,u0V,u0W,u0X⟩:=pK HI.o HA.o 12 17;have si:=hid HI.o.world;obtain ⟨ol,K3⟩:=aD (wo.o.trans (si.o.mono wo.o.size)) (K3.o.below si.o);have RA:=u0r;have RB:=u0s;have RC:=u0t;have u0u:=u0V;have u0v:=u0W;have u0w:=u0X;obtain⟨sj,sw,r9,oV,mf,mi,l5,l6,lc⟩:=di K3.o;obtain⟨u0f,u0g,u0h,u0l,u0m,u0n,u0o,u0p,u0q⟩:=frz9 K3.o;have y4:=HI.o.rst 4 rfl;dsimp only[Qvv]at x12;refine aH (t:=0) ?_;refine av rfl fun K' hK=>?_;go_simp;refine hK.o _ _ ?_;clear hK;refine aO ?_;rw[← gK];have s0:∀ {q':QS} {x':Rat},FQ W q' x'→FQ (storeAll W (w.heap.size+1+1) 0 (Lvv kz kK kM)) q' x':=fun h'=>bE _ 0 h' K3.o (by simp[bS,Lvv,QS.l]) (by simp[bi,Lvv,QS.l]);exact⟨rfl,fw,fQ,ed,kz,kK,kM,(HI.o.finx ⟨HI.o.sx HA.o 0,HI.o.sx HA.o 1,HI.o.sx HA.o 2,x3,HI.o.sx HA.o 4,HI.o.sx HA.o 5,HI.o.sx HA.o 6,x7,HI.o.sx HA.o 8,HI.o.sx HA.o 9,HI.o.sx HA.o 10,x11,x12,trivial⟩ rfl),(au (l:=(Lvv kz kK kM)) (i:=0) (by omega) ol.o),(cK K3.o),(s0 u0u.o),(s0 u0v.o),(s0 u0w.o)⟩
 rintro a' W1 ⟨fw,fQ,ed,kz,kK,kM,rfl,z0,z1,z2,z3,z4⟩;obtain ⟨p8,K3,u0u,u0v,u0w⟩:=bA z0 z1 z2 z3 z4;clear z0 z1 z2 z3 z4;simp only[aR,List.setIfInBounds_toArray,List.set_cons_zero,List.set_cons_succ];go_wp2;obtain ⟨sj,sw,r9,oV,mf,mi,l5,l6,lc⟩:=bT K3.o rfl rfl rfl rfl rfl rfl rfl rfl rfl;exact bodyPost_ret (v:=(Qvv kz kK kM)) (by simp[Lvv,QS.l,Qvv,QS.v,results,results65,go_sem,sj,sw,r9,oV,mf,mi,l5,l6,lc]) rfl ⟨_,_,_,rfl,u0u.o,u0v.o,u0w.o,p8.o⟩
theorem zA (xa xb xc ya yb yc za zb zc zs zd:Rat)(q1a q1b q1c:QS)(q2a q2b q2c:QS)(w:World)  (h1:KQ2 58 xa ya za)(h2:KQ2 58 xb yb zb)(h3:KQ2 58 xc yc zc)(h4:KQ2 61 zb zc zs)(h5:KQ2 61 za zs zd)(r1a:FQ w q1a xa)(r1b:FQ w q1b xb)(r1c:FQ w q1c xc)(r2a:FQ w q2a ya)(r2b:FQ w q2b yb)(r2c:FQ w q2c yc) :
 Calls Tryz.prog 41 #[(Qvv q1a q1b q1c),(Qvv q2a q2b q2c)] w (RQ w zd):=by
 dsimp only[Qvv];obtain ⟨C1,C2,C3,C4,C5,R1a,R1b,R1c,R2a⟩:=bK h1 h2 h3 h4 h5 r1a r1b r1c r2a;have R2b:=hid r2b;have R2c:=hid r2c;clear h1 h2 h3 h4 h5 r1a r1b r1c r2a r2b r2c;go_enter func41,ntmps41
 go_upto_region 1 with fail
 refine ak w [((Lvv q1a q1b q1c).toArray,59),((Lvv q2a q2b q2c).toArray,59),(#[.bool false,.slice none 0 0,.slice none 0 0],57)] rfl ?_;rintro W0 ⟨k1,k2,k3,hb⟩;have wo:=hid (show Below w.heap.size w W0 from hb);obtain ⟨R1a,R1b,R1c,R2a,R2b,R2c⟩:=cu wo.o R1a R1b R1c R2a R2b R2c;obtain ⟨K1,K2,K3⟩:=ax k1 k2 k3;clear k1 k2 k3 hb;go_wp2_with fail
 refine ay (fun a0 a' V=>∃ (u6:QS) (w9:QS) (wu:QS) (rV:QS) (lg:QS),a'=⟨aR [(5,.pointer (some ⟨w.heap.size,0,none⟩)),(6,q1a.v),(7,.pointer (some ⟨w.heap.size+1,0,none⟩)),(8,q2a.v),(9,u6.v),(10,.pointer (some ⟨w.heap.size,3,none⟩)),(11,q1b.v),(12,.pointer (some ⟨w.heap.size+1,3,none⟩)),(13,q2b.v),(14,w9.v),(15,.pointer (some ⟨w.heap.size,6,none⟩)),(16,q1c.v),(17,.pointer (some ⟨w.heap.size+1,6,none⟩)),(18,q2c.v),(19,wu.v),(20,rV.v),(21,lg.v)] a0.tmps,a0.defers⟩∧Below w.heap.size w V∧SBk V (w.heap.size+1+1) lg.l.toArray 57∧FQ V lg zd) ?_ ?_
 · refine aC 17 1 [5,6,7,8,9,10,11,12,13,14,15,16,17,18,19,20,21] [Rel.val (.pointer (some ⟨w.heap.size,0,none⟩)),Rel.val (q1a.v),Rel.val (.pointer (some ⟨w.heap.size+1,0,none⟩)),Rel.val (q2a.v),Rel.q za,Rel.val (.pointer (some ⟨w.heap.size,3,none⟩)),Rel.val (q1b.v),Rel.val (.pointer (some ⟨w.heap.size+1,3,none⟩)),Rel.val (q2b.v),Rel.q zb,Rel.val (.pointer (some ⟨w.heap.size,6,none⟩)),Rel.val (q1c.v),Rel.val (.pointer (some ⟨w.heap.size+1,6,none⟩)),Rel.val (q2c.v),Rel.q zc,Rel.q zs,Rel.q zd] ?_ ?_
   · intro pq a W i HI hD Hr him
     obtain⟨y2,y3⟩:=HI.o.s2 2 3;obtain⟨dz,dX,dY,u08,u09,u0a,u0b,u0c,u0d⟩:=di (K1.o.below HI.o.world);obtain⟨lv,kr,ky,u02,u03,u04,u05,u06,u07⟩:=di (K2.o.below HI.o.world);obtain⟨X0,X2,X1,X3,X5,X7⟩:=HI.o.g6 0 5 2 7 1 6 3 8 5 10 7 12;obtain⟨X6,X8,X10,X12,X11,X13⟩:=HI.o.g6 6 11 8 13 10 15 12 17 11 16 13 18
     match i,him,Hr with
     | 0,_,Hi|1,_,Hi|2,_,Hi|3,_,Hi|5,_,Hi|6,_,Hi|7,_,Hi|8,_,Hi|10,_,Hi|11,_,Hi|12,_,Hi|13,_,Hi =>
       try have x0:=X0.t Hi.o
       try have x2:=X2.t Hi.o
       try have x5:=X5.t Hi.o
       try have x7:=X7.t Hi.o
       try have x10:=X10.t Hi.o
       try have x12:=X12.t Hi.o
       refine av rfl fun K' hK=>?_;go_simp;exact hK.o _ _ (HI.o.pw Hi.o)
     | 4,_,Hi =>
       have x1:=X1.q Hi.o;have x3:=X3.q Hi.o;refine av rfl fun K' hK=>?_;go_simp;with_reducible refine(C1.o _ _ _ (R1a.o.below HI.o.world) (R2a.o.below HI.o.world)).mono ?_
       rintro e W' ⟨u6,rfl,cO,hb⟩;exact hK.o _ _ ⟨HI.o.pc Hi.o hb ⟨u6,rfl,cO⟩,trivial⟩
     | 9,_,Hi =>
       have x6:=X6.q Hi.o;have x8:=X8.q Hi.o;refine av rfl fun K' hK=>?_;go_simp;with_reducible refine(C2.o _ _ _ (R1b.o.below HI.o.world) (R2b.o.below HI.o.world)).mono ?_
       rintro e W' ⟨w9,rfl,bg,hb⟩;exact hK.o _ _ ⟨HI.o.pc Hi.o hb ⟨w9,rfl,bg⟩,trivial⟩
     | 14,_,Hi =>
       have x11:=X11.q Hi.o;have x13:=X13.q Hi.o;refine av rfl fun K' hK=>?_;go_simp;with_reducible refine(C3.o _ _ _ (R1c.o.below HI.o.world) (R2c.o.below HI.o.world)).mono ?_
       rintro e W' ⟨wu,rfl,u0e,hb⟩;exact hK.o _ _ ⟨HI.o.pc Hi.o hb ⟨wu,rfl,u0e⟩,trivial⟩
     | 15,_,Hi =>
       obtain⟨w9,x9,rM⟩:=qAt HI.o 9 14 Hi.o (by kernel_rfl);obtain⟨wu,x14,oM⟩:=qAt HI.o 14 19 Hi.o (by kernel_rfl);refine av rfl fun K' hK=>?_;go_simp;with_reducible refine(C4.o _ _ _ rM.o oM.o).mono ?_
       rintro e W' ⟨rV,rfl,u0x,hb⟩;exact hK.o _ _ ⟨HI.o.pc Hi.o hb ⟨rV,rfl,u0x⟩,trivial⟩
     | 16,_,Hi =>
       obtain⟨u6,x4,rf⟩:=qAt HI.o 4 9 Hi.o (by kernel_rfl);obtain⟨rV,x15,bv⟩:=qAt HI.o 15 20 Hi.o (by kernel_rfl);refine av rfl fun K' hK=>?_;go_simp;with_reducible refine(C5.o _ _ _ rf.o bv.o).mono ?_
       rintro e W' ⟨lg,rfl,u0Y,hb⟩;exact hK.o _ _ ⟨HI.o.pc Hi.o hb ⟨lg,rfl,u0Y⟩,trivial⟩
     | n+17,h,_=>exact absurd h (by omega)
   · intro pq a W HI hD HA
     obtain⟨u6,x4,rf⟩:=qEnd HI.o HA.o 4 9;obtain⟨w9,x9,rM⟩:=qEnd HI.o HA.o 9 14;obtain⟨wu,x14,oM⟩:=qEnd HI.o HA.o 14 19;obtain⟨rV,x15,bv⟩:=qEnd HI.o HA.o 15 20;obtain⟨lg,x16,u0Z⟩:=qEnd HI.o HA.o 16 21;have si:=hid HI.o.world;obtain ⟨ol,K3⟩:=aD (wo.o.trans (si.o.mono wo.o.size)) (K3.o.below si.o);have RA:=rf;have RB:=rM;have RC:=oM;have RS:=bv;have RD:=u0Z;obtain⟨sj,sw,r9⟩:=cells3 K3.o;obtain⟨u0f,u0g,u0h⟩:=frz3 K3.o;have y4:=HI.o.rst 4 rfl;dsimp only[QS.v]at x16;refine aH (t:=0) ?_;refine av rfl fun K' hK=>?_;go_simp;refine hK.o _ _ ?_;clear hK;refine aO ?_;rw[← eD];have s0:∀ {q':QS} {x':Rat},FQ W q' x'→FQ (storeAll W (w.heap.size+1+1) 0 lg.l) q' x':=fun h'=>bE _ 0 h' K3.o (by simp[bS,Lvv,QS.l]) (by simp[bi,Lvv,QS.l]);exact⟨rfl,u6,w9,wu,rV,lg,(HI.o.finx ⟨HI.o.sx HA.o 0,HI.o.sx HA.o 1,HI.o.sx HA.o 2,HI.o.sx HA.o 3,x4,HI.o.sx HA.o 5,HI.o.sx HA.o 6,HI.o.sx HA.o 7,HI.o.sx HA.o 8,x9,HI.o.sx HA.o 10,HI.o.sx HA.o 11,HI.o.sx HA.o 12,HI.o.sx HA.o 13,x14,x15,x16,trivial⟩ rfl),(au (l:=lg.l) (i:=0) (by omega) ol.o),(dC K3.o),(s0 RD.o)⟩
 rintro a' W1 ⟨u6,w9,wu,rV,lg,rfl,z0,z1,z2⟩;obtain ⟨p8,K3,RD⟩:=ax z0 z1 z2;clear z0 z1 z2;simp only[aR,List.setIfInBounds_toArray,List.set_cons_zero,List.set_cons_succ];go_wp2;obtain ⟨sj,sw,r9⟩:=ah K3.o rfl rfl rfl;exact bodyPost_ret (v:=lg.v) (by simp[Lvv,QS.l,Qvv,QS.v,results,results41,go_sem,sj,sw,r9]) rfl ⟨_,rfl,RD.o,p8.o⟩
theorem zx (xa xb xc ya yb yc pa ma pb mb pc mc za zb zc:Rat)(q1a q1b q1c:QS)(q2a q2b q2c:QS)(w:World)  (h01:KQ2 58 xb yc pa)(h02:KQ2 58 xc yb ma)(h03:KQ2 53 pa ma za)(h11:KQ2 58 xc ya pb)(h12:KQ2 58 xa yc mb)(h13:KQ2 53 pb mb zb)(h21:KQ2 58 xa yb pc)(h22:KQ2 58 xb ya mc)(h23:KQ2 53 pc mc zc)(r1a:FQ w q1a xa)(r1b:FQ w q1b xb)(r1c:FQ w q1c xc)(r2a:FQ w q2a ya)(r2b:FQ w q2b yb)(r2c:FQ w q2c yc) :
 Calls Tryz.prog 36 #[(Qvv q1a q1b q1c),(Qvv q2a q2b q2c)] w (Rv3 w za zb zc):=by
 dsimp only[Qvv];obtain ⟨C01,C02,C03,C11,C12,C13,C21,C22,C23⟩:=bK h01 h02 h03 h11 h12 h13 h21 h22 h23;obtain ⟨R1a,R1b,R1c,R2a,R2b,R2c⟩:=cZ r1a r1b r1c r2a r2b r2c;clear h01 h02 h03 h11 h12 h13 h21 h22 h23 r1a r1b r1c r2a r2b r2c;go_enter func36,ntmps36
 go_upto_region 1 with fail
 refine ak w [((Lvv q1a q1b q1c).toArray,59),((Lvv q2a q2b q2c).toArray,59),(#[.bool false,.slice none 0 0,.slice none 0 0,.bool false,.slice none 0 0,.slice none 0 0,.bool false,.slice none 0 0,.slice none 0 0],59)] rfl ?_;rintro W0 ⟨k1,k2,k3,hb⟩;have wo:=hid (show Below w.heap.size w W0 from hb);obtain ⟨R1a,R1b,R1c,R2a,R2b,R2c⟩:=cu wo.o R1a R1b R1c R2a R2b R2c;obtain ⟨K1,K2,K3⟩:=ax k1 k2 k3;clear k1 k2 k3 hb;go_wp2_with fail
 refine ay (fun a0 a' V=>∃ (u6:QS) (w9:QS) (d9:QS) (rV:QS) (bz:QS) (dn:QS) (bM:QS) (bV:QS) (dx:QS) (kV:QS) (gy:QS) (fq:QS),a'=⟨aR [(5,.pointer (some ⟨w.heap.size,3,none⟩)),(6,q1b.v),(7,.pointer (some ⟨w.heap.size+1,6,none⟩)),(8,q2c.v),(9,u6.v),(10,.pointer (some ⟨w.heap.size,6,none⟩)),(11,q1c.v),(12,.pointer (some ⟨w.heap.size+1,3,none⟩)),(13,q2b.v),(14,w9.v),(15,d9.v),(16,.pointer (some ⟨w.heap.size,6,none⟩)),(17,q1c.v),(18,.pointer (some ⟨w.heap.size+1,0,none⟩)),(19,q2a.v),(20,rV.v),(21,.pointer (some ⟨w.heap.size,0,none⟩)),(22,q1a.v),(23,.pointer (some ⟨w.heap.size+1,6,none⟩)),(24,q2c.v),(25,bz.v),(26,dn.v),(27,.pointer (some ⟨w.heap.size,0,none⟩)),(28,q1a.v),(29,.pointer (some ⟨w.heap.size+1,3,none⟩)),(30,q2b.v),(31,bM.v),(32,.pointer (some ⟨w.heap.size,3,none⟩)),(33,q1b.v),(34,.pointer (some ⟨w.heap.size+1,0,none⟩)),(35,q2a.v),(36,bV.v),(37,dx.v),(38,Qvv kV gy fq)] a0.tmps,a0.defers⟩∧Below w.heap.size w V∧SBk V (w.heap.size+1+1) (Lvv kV gy fq).toArray 59∧FQ V kV za∧FQ V gy zb∧FQ V fq zc) ?_ ?_
 · refine aC 34 1 [5,6,7,8,9,10,11,12,13,14,15,16,17,18,19,20,21,22,23,24,25,26,27,28,29,30,31,32,33,34,35,36,37,38] [Rel.val (.pointer (some ⟨w.heap.size,3,none⟩)),Rel.val (q1b.v),Rel.val (.pointer (some ⟨w.heap.size+1,6,none⟩)),Rel.val (q2c.v),Rel.q pa,Rel.val (.pointer (some ⟨w.heap.size,6,none⟩)),Rel.val (q1c.v),Rel.val (.pointer (some ⟨w.heap.size+1,3,none⟩)),Rel.val (q2b.v),Rel.q ma,Rel.q za,Rel.val (.pointer (some ⟨w.heap.size,6,none⟩)),Rel.val (q1c.v),Rel.val (.pointer (some ⟨w.heap.size+1,0,none⟩)),Rel.val (q2a.v),Rel.q pb,Rel.val (.pointer (some ⟨w.heap.size,0,none⟩)),Rel.val (q1a.v),Rel.val (.pointer (some ⟨w.heap.size+1,6,none⟩)),Rel.val (q2c.v),Rel.q mb,Rel.q zb,Rel.val (.pointer (some ⟨w.heap.size,0,none⟩)),Rel.val (q1a.v),Rel.val (.pointer (some ⟨w.heap.size+1,3,none⟩)),Rel.val (q2b.v),Rel.q pc,Rel.val (.pointer (some ⟨w.heap.size,3,none⟩)),Rel.val (q1b.v),Rel.val (.pointer (some ⟨w.heap.size+1,0,none⟩)),Rel.val (q2a.v),Rel.q mc,Rel.q zc,Rel.qv za zb zc] ?_ ?_
   · intro pq a W i HI hD Hr him
     obtain⟨y2,y3⟩:=HI.o.s2 2 3;obtain⟨dz,dX,dY,u08,u09,u0a,u0b,u0c,u0d⟩:=di (K1.o.below HI.o.world);obtain⟨lv,kr,ky,u02,u03,u04,u05,u06,u07⟩:=di (K2.o.below HI.o.world);obtain⟨X0,X2,X1,X3,X5,X7⟩:=HI.o.g6 0 5 2 7 1 6 3 8 5 10 7 12;obtain⟨X6,X8,X11,X13,X12,X14⟩:=HI.o.g6 6 11 8 13 11 16 13 18 12 17 14 19;obtain⟨X16,X18,X17,X19,X22,X24⟩:=HI.o.g6 16 21 18 23 17 22 19 24 22 27 24 29;obtain⟨X23,X25,X27,X29,X28,X30⟩:=HI.o.g6 23 28 25 30 27 32 29 34 28 33 30 35
     match i,him,Hr with
     | 0,_,Hi|1,_,Hi|2,_,Hi|3,_,Hi|5,_,Hi|6,_,Hi|7,_,Hi|8,_,Hi|11,_,Hi|12,_,Hi|13,_,Hi|14,_,Hi|16,_,Hi|17,_,Hi|18,_,Hi|19,_,Hi|22,_,Hi|23,_,Hi|24,_,Hi|25,_,Hi|27,_,Hi|28,_,Hi|29,_,Hi|30,_,Hi =>
       try have x0:=X0.t Hi.o
       try have x2:=X2.t Hi.o
       try have x5:=X5.t Hi.o
       try have x7:=X7.t Hi.o
       try have x11:=X11.t Hi.o
       try have x13:=X13.t Hi.o
       try have x16:=X16.t Hi.o
       try have x18:=X18.t Hi.o
       try have x22:=X22.t Hi.o
       try have x24:=X24.t Hi.o
       try have x27:=X27.t Hi.o
       try have x29:=X29.t Hi.o
       refine av rfl fun K' hK=>?_;go_simp;exact hK.o _ _ (HI.o.pw Hi.o)
     | 4,_,Hi =>
       have x1:=X1.q Hi.o;have x3:=X3.q Hi.o;refine av rfl fun K' hK=>?_;go_simp;with_reducible refine(C01.o _ _ _ (R1b.o.below HI.o.world) (R2c.o.below HI.o.world)).mono ?_
       rintro e W' ⟨u6,rfl,cO,hb⟩;exact hK.o _ _ ⟨HI.o.pc Hi.o hb ⟨u6,rfl,cO⟩,trivial⟩
     | 9,_,Hi =>
       have x6:=X6.q Hi.o;have x8:=X8.q Hi.o;refine av rfl fun K' hK=>?_;go_simp;with_reducible refine(C02.o _ _ _ (R1c.o.below HI.o.world) (R2b.o.below HI.o.world)).mono ?_
       rintro e W' ⟨w9,rfl,bg,hb⟩;exact hK.o _ _ ⟨HI.o.pc Hi.o hb ⟨w9,rfl,bg⟩,trivial⟩
     | 10,_,Hi =>
       obtain⟨u6,x4,rf⟩:=qAt HI.o 4 9 Hi.o (by kernel_rfl);obtain⟨w9,x9,rM⟩:=qAt HI.o 9 14 Hi.o (by kernel_rfl);refine av rfl fun K' hK=>?_;go_simp;with_reducible refine(C03.o _ _ _ rf.o rM.o).mono ?_
       rintro e W' ⟨d9,rfl,u10,hb⟩;exact hK.o _ _ ⟨HI.o.pc Hi.o hb ⟨d9,rfl,u10⟩,trivial⟩
     | 15,_,Hi =>
       have x12:=X12.q Hi.o;have x14:=X14.q Hi.o;refine av rfl fun K' hK=>?_;go_simp;with_reducible refine(C11.o _ _ _ (R1c.o.below HI.o.world) (R2a.o.below HI.o.world)).mono ?_
       rintro e W' ⟨rV,rfl,u0x,hb⟩;exact hK.o _ _ ⟨HI.o.pc Hi.o hb ⟨rV,rfl,u0x⟩,trivial⟩
     | 20,_,Hi =>
       have x17:=X17.q Hi.o;have x19:=X19.q Hi.o;refine av rfl fun K' hK=>?_;go_simp;with_reducible refine(C12.o _ _ _ (R1a.o.below HI.o.world) (R2c.o.below HI.o.world)).mono ?_
       rintro e W' ⟨bz,rfl,u11,hb⟩;exact hK.o _ _ ⟨HI.o.pc Hi.o hb ⟨bz,rfl,u11⟩,trivial⟩
     | 21,_,Hi =>
       obtain⟨rV,x15,bv⟩:=qAt HI.o 15 20 Hi.o (by kernel_rfl);obtain⟨bz,x20,u0y⟩:=qAt HI.o 20 25 Hi.o (by kernel_rfl);refine av rfl fun K' hK=>?_;go_simp;with_reducible refine(C13.o _ _ _ bv.o u0y.o).mono ?_
       rintro e W' ⟨dn,rfl,u12,hb⟩;exact hK.o _ _ ⟨HI.o.pc Hi.o hb ⟨dn,rfl,u12⟩,trivial⟩
     | 26,_,Hi =>
       have x23:=X23.q Hi.o;have x25:=X25.q Hi.o;refine av rfl fun K' hK=>?_;go_simp;with_reducible refine(C21.o _ _ _ (R1a.o.below HI.o.world) (R2b.o.below HI.o.world)).mono ?_
       rintro e W' ⟨bM,rfl,u13,hb⟩;exact hK.o _ _ ⟨HI.o.pc Hi.o hb ⟨bM,rfl,u13⟩,trivial⟩
     | 31,_,Hi =>
       have x28:=X28.q Hi.o;have x30:=X30.q Hi.o;refine av rfl fun K' hK=>?_;go_simp;with_reducible refine(C22.o _ _ _ (R1b.o.below HI.o.world) (R2a.o.below HI.o.world)).mono ?_
       rintro e W' ⟨bV,rfl,u14,hb⟩;exact hK.o _ _ ⟨HI.o.pc Hi.o hb ⟨bV,rfl,u14⟩,trivial⟩
     | 32,_,Hi =>
       obtain⟨bM,x26,u0z⟩:=qAt HI.o 26 31 Hi.o (by kernel_rfl);obtain⟨bV,x31,u0A⟩:=qAt HI.o 31 36 Hi.o (by kernel_rfl);refine av rfl fun K' hK=>?_;go_simp;with_reducible refine(C23.o _ _ _ u0z.o u0A.o).mono ?_
       rintro e W' ⟨dx,rfl,u15,hb⟩;exact hK.o _ _ ⟨HI.o.pc Hi.o hb ⟨dx,rfl,u15⟩,trivial⟩
     | 33,_,Hi =>
       obtain⟨d9,x10,u0B⟩:=qAt HI.o 10 15 Hi.o (by kernel_rfl);dsimp only[QS.v]at x10;obtain⟨dn,x21,u0C⟩:=qAt HI.o 21 26 Hi.o (by kernel_rfl);dsimp only[QS.v]at x21;obtain⟨dx,x32,u0D⟩:=qAt HI.o 32 37 Hi.o (by kernel_rfl);dsimp only[QS.v]at x32;refine av rfl fun K' hK=>?_;go_simp;exact hK.o _ _ ⟨HI.o.pv Hi.o ⟨d9,dn,dx,rfl,u0B.o,u0C.o,u0D.o⟩,trivial⟩
     | n+34,h,_=>exact absurd h (by omega)
   · intro pq a W HI hD HA
     obtain⟨u6,x4,rf⟩:=qEnd HI.o HA.o 4 9;obtain⟨w9,x9,rM⟩:=qEnd HI.o HA.o 9 14;obtain⟨d9,x10,u0B⟩:=qEnd HI.o HA.o 10 15;obtain⟨rV,x15,bv⟩:=qEnd HI.o HA.o 15 20;obtain⟨bz,x20,u0y⟩:=qEnd HI.o HA.o 20 25;obtain⟨dn,x21,u0C⟩:=qEnd HI.o HA.o 21 26;obtain⟨bM,x26,u0z⟩:=qEnd HI.o HA.o 26 31;obtain⟨bV,x31,u0A⟩:=qEnd HI.o HA.o 31 36;obtain⟨dx,x32,u0D⟩:=qEnd HI.o HA.o 32 37;obtain⟨kV,gy,fq,x33,u17,u18,u19⟩:=pK HI.o HA.o 33 38;have si:=hid HI.o.world;obtain ⟨ol,K3⟩:=aD (wo.o.trans (si.o.mono wo.o.size)) (K3.o.below si.o);have RP0:=rf;have RM0:=rM;have RA:=u0B;have RP1:=bv;have RM1:=u0y;have RB:=u0C;have RP2:=u0z;have RM2:=u0A;have RC:=u0D;have u0E:=u17;have u0F:=u18;have u0G:=u19;obtain⟨sj,sw,r9,oV,mf,mi,l5,l6,lc⟩:=di K3.o;obtain⟨u0f,u0g,u0h,u0l,u0m,u0n,u0o,u0p,u0q⟩:=frz9 K3.o;have y4:=HI.o.rst 4 rfl;dsimp only[Qvv]at x33;refine aH (t:=0) ?_;refine av rfl fun K' hK=>?_;go_simp;refine hK.o _ _ ?_;clear hK;refine aO ?_;rw[← gK];have s0:∀ {q':QS} {x':Rat},FQ W q' x'→FQ (storeAll W (w.heap.size+1+1) 0 (Lvv kV gy fq)) q' x':=fun h'=>bE _ 0 h' K3.o (by simp[bS,Lvv,QS.l]) (by simp[bi,Lvv,QS.l]);exact⟨rfl,u6,w9,d9,rV,bz,dn,bM,bV,dx,kV,gy,fq,(HI.o.finx ⟨HI.o.sx HA.o 0,HI.o.sx HA.o 1,HI.o.sx HA.o 2,HI.o.sx HA.o 3,x4,HI.o.sx HA.o 5,HI.o.sx HA.o 6,HI.o.sx HA.o 7,HI.o.sx HA.o 8,x9,x10,HI.o.sx HA.o 11,HI.o.sx HA.o 12,HI.o.sx HA.o 13,HI.o.sx HA.o 14,x15,HI.o.sx HA.o 16,HI.o.sx HA.o 17,HI.o.sx HA.o 18,HI.o.sx HA.o 19,x20,x21,HI.o.sx HA.o 22,HI.o.sx HA.o 23,HI.o.sx HA.o 24,HI.o.sx HA.o 25,x26,HI.o.sx HA.o 27,HI.o.sx HA.o 28,HI.o.sx HA.o 29,HI.o.sx HA.o 30,x31,x32,x33,trivial⟩ rfl),(au (l:=(Lvv kV gy fq)) (i:=0) (by omega) ol.o),(cK K3.o),(s0 u0E.o),(s0 u0F.o),(s0 u0G.o)⟩
 rintro a' W1 ⟨u6,w9,d9,rV,bz,dn,bM,bV,dx,kV,gy,fq,rfl,z0,z1,z2,z3,z4⟩;obtain ⟨p8,K3,u0E,u0F,u0G⟩:=bA z0 z1 z2 z3 z4;clear z0 z1 z2 z3 z4;simp only[aR,List.setIfInBounds_toArray,List.set_cons_zero,List.set_cons_succ];go_wp2;obtain ⟨sj,sw,r9,oV,mf,mi,l5,l6,lc⟩:=bT K3.o rfl rfl rfl rfl rfl rfl rfl rfl rfl;exact bodyPost_ret (v:=(Qvv kV gy fq)) (by simp[Lvv,QS.l,Qvv,QS.v,results,results36,go_sem,sj,sw,r9,oV,mf,mi,l5,l6,lc]) rfl ⟨_,_,_,rfl,u0E.o,u0F.o,u0G.o,p8.o⟩
