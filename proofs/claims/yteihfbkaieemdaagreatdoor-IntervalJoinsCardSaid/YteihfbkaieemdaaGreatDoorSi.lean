/- texts -/
import Derived.Test.YteihfbkaieemdaaGreatDoorMz31q
open Go.Proofs.Tryz
set_option maxRecDepth 100000
set_option maxHeartbeats 20000000
open Go.Lib (hid)
namespace Go.Proofs.YteihfbkaieemdaaGreatDoor
open Go.RowKit Go.Gb
theorem z1M (k n:Int)(dn:Nat)  (w:World)(h1:∀ W,CZ 75 #[.int .i64 k] W n)(h2:∀ W,CN 76 #[.int .u32 1] W dn)  :
 CF 50 #[.int .i64 k] w n dn:=by
 have C1:=hid h1;have C2:=hid h2;clear h1 h2;go_enter func50,ntmps50
 go_upto_region 1 with fail
 refine az w [(#[.bool false,.slice none 0 0,.slice none 0 0],54)] rfl ?_;rintro W0 ⟨k1,hb⟩;have u6:=hid (show Below w.heap.size w W0 from hb);have K1:=hid k1;clear k1 hb;go_wp2_with fail
 with_reducible refine(C1.o _).mono ?_
 rintro e W1 ⟨fq,fQ,rfl,cu,hb⟩;have K1:=hid (K1.o.below hb);have ru:=hbt u6 hb;have RN1:=hid cu;clear hb cu;go_wp2_with fail
 with_reducible refine(C2.o _).mono ?_
 rintro e W2 ⟨ed,eX,rfl,cO,hb⟩;obtain ⟨K1,RN1⟩:=aP hb K1 RN1;have bu:=hbt ru hb;have RD1:=hid cO;clear hb cO;obtain ⟨l5,lg,d9⟩:=aS K1.o rfl rfl rfl;obtain ⟨u00,u01,u02⟩:=cB K1.o;go_wp2;exact bodyPost_ret (v:=.agg #[.bool (ah n),.slice fq (aa n) fQ,.slice ed (ag dn) eX]) (by simp[results,results50,go_sem,l5,lg,d9]) rfl ⟨_,_,_,_,rfl,(bi [.bool (ah n),.slice fq (aa n) fQ,.slice ed (ag dn) eX] RN1.o K1.o (by simp[bL]) (by simp[bA])),(bi [.bool (ah n),.slice fq (aa n) fQ,.slice ed (ag dn) eX] RD1.o K1.o (by simp[bL]) (by simp[bA])),(ay (l:=[.bool (ah n),.slice fq (aa n) fQ,.slice ed (ag dn) eX]) (i:=0) (by omega) bu.o)⟩
theorem z1J (n m:Int)(en:Nat)(p1:Option Addr)(c1:Nat)(s1:Option Addr)(d1:Nat)(w:World)(h1:∀ p1 c1 W,RN W (.slice p1 (aa n) c1) n.natAbs→CZ 119 #[.agg #[.bool (ah n),.slice p1 (aa n) c1]] W m)(r1:RN w (.slice p1 (aa n) c1) n.natAbs)(t1:RN w (.slice s1 (ag en) d1) en) :
 CF 83 #[.agg #[.bool (ah n),.slice p1 (aa n) c1,.slice s1 (ag en) d1]] w m en:=by
 obtain ⟨C1,R1,T1⟩:=ak h1 r1 t1;clear h1 r1 t1;go_enter func83,ntmps83
 go_upto_region 1 with fail
 refine az w [(#[.bool (ah n),.slice p1 (aa n) c1,.slice s1 (ag en) d1],54),(#[.bool false,.slice none 0 0,.slice none 0 0],54)] rfl ?_;rintro W0 ⟨k1,k2,hb⟩;have u6:=hid (show Below w.heap.size w W0 from hb);obtain ⟨R1,T1⟩:=aP u6.o R1 T1;obtain ⟨K1,K2⟩:=aB k1 k2;clear k1 k2 hb;go_wp2_with fail
 refine aN (fun a0 a' V=>∃ rM rV ww si,a'=⟨putL [(3,.pointer (some ⟨w.heap.size,0,none⟩)),(4,.agg #[.bool (ah n),.slice p1 (aa n) c1]),(5,.agg #[.bool (ah m),.slice rM (aa m) rV]),(6,.pointer (some ⟨w.heap.size,2,none⟩)),(7,.slice s1 (ag en) d1),(8,.agg #[.bool (ah m),.slice ww (aa m) si,.slice s1 (ag en) d1])] a0.tmps,a0.defers⟩∧Below w.heap.size w V∧SBk V (w.heap.size+1) #[.bool (ah m),.slice ww (aa m) si,.slice s1 (ag en) d1] 54∧RN V (.slice s1 (ag en) d1) en∧RN V (.slice ww (aa m) si) m.natAbs) ?_ ?_
 · refine bE 6 1 [3,4,5,6,7,8] [Rel.val (.pointer (some ⟨w.heap.size,0,none⟩)),Rel.val (.agg #[.bool (ah n),.slice p1 (aa n) c1]),Rel.int m,Rel.val (.pointer (some ⟨w.heap.size,2,none⟩)),Rel.val (.slice s1 (ag en) d1),⟨fun v W=>∃ pa ca,v=.agg #[.bool (ah m),.slice pa (aa m) ca,.slice s1 (ag en) d1]∧RN W (.slice pa (aa m) ca) m.natAbs,fun _ _ _ ⟨pa,ca,e,h0⟩ hb=>⟨pa,ca,e,h0.below hb⟩⟩] ?_ ?_
   · intro kM a W i HI hD Hr him
     have y1:=HI.o.rst 1 rfl;obtain ⟨l5,lg,d9⟩:=aS (K1.o.below HI.o.world) rfl rfl rfl;obtain⟨X0,X1,X3⟩:=HI.o.g3 0 3 1 4 3 6;have X4:=HI.o.rg 4 7 rfl
     match i,him,Hr with
     | 0,_,Hi|1,_,Hi =>
       try have x0:=X0.t Hi.o
       refine aM rfl fun K' hK=>?_;go_simp;exact hK.o _ _ (HI.o.pw Hi.o)
     | 2,_,Hi =>
       have x1:=X1.q Hi.o;refine aM rfl fun K' hK=>?_;go_simp;with_reducible refine(C1.o _ _ _ (R1.o.below HI.o.world)).mono ?_
       rintro e W' ⟨rM,rV,rfl,mf,hb⟩;exact hK.o _ _ ⟨HI.o.pc Hi.o hb ⟨rM,rV,rfl,mf⟩,trivial⟩
     | 3,_,Hi|4,_,Hi =>
       try have x3:=X3.t Hi.o
       refine aM rfl fun K' hK=>?_;go_simp;exact hK.o _ _ (HI.o.pw Hi.o)
     | 5,_,Hi =>
       obtain⟨v',x2,rM,rV,e,mf⟩:=HI.o.at (i:=2) Hi.o (by kernel_rfl) (by decide);obtain rfl:=e;have x2:a.tmps[5]? = some (.agg #[.bool (ah m),.slice rM (aa m) rV]):=x2;have dX:=hid mf;clear mf;have x4:=X4.q Hi.o;refine aM rfl fun K' hK=>?_;go_simp;exact hK.o _ _ ⟨HI.o.pv Hi.o ⟨rM,rV,rfl,dX.o⟩,trivial⟩
     | n+6,h,_=>exact absurd h (by omega)
   · intro kM a W HI hD HA
     obtain⟨v',x2,rM,rV,e,mf⟩:=HI.o.slots 2 (by decide) (HA.o 2 (by decide));obtain rfl:=e;have dX:=hid mf;clear mf;obtain⟨v',x5,ww,si,e,r9⟩:=HI.o.slots 5 (by decide) (HA.o 5 (by decide));obtain rfl:=e;have kV:=hid r9;clear r9;have x5:a.tmps[8]? = some (.agg #[.bool (ah m),.slice ww (aa m) si,.slice s1 (ag en) d1]):=x5;have pq:=hid HI.o.world;obtain ⟨K2,T1⟩:=aP pq.o K2 T1;have gy:=Lib.hid (u6.o.trans (pq.o.mono u6.o.size));have RM:=dX;have RMb:=kV;have y2:=HI.o.rst 2 rfl;obtain ⟨lm,lv,kz⟩:=aS K2.o rfl rfl rfl;obtain ⟨bv,bM,bV⟩:=cB K2.o;refine aY (t:=0) ?_;refine aM rfl fun K' hK=>?_;go_simp;refine hK.o _ _ ?_;clear hK;refine bQ ?_;have s0:∀ {v':Value} {n':Nat},RN W v' n'→RN (storeAll W (w.heap.size+1) 0 [.bool (ah m),.slice ww (aa m) si,.slice s1 (ag en) d1]) v' n':=fun h'=>bi _ h' K2.o (by simp[bL]) (by simp[bA]);exact⟨rfl,rM,rV,ww,si,(HI.o.finx ⟨HI.o.sx HA.o 0,HI.o.sx HA.o 1,x2,HI.o.sx HA.o 3,HI.o.sx HA.o 4,x5,trivial⟩ rfl),(ay (l:=[.bool (ah m),.slice ww (aa m) si,.slice s1 (ag en) d1]) (i:=0) (by omega) gy.o),(dm (l:=[.bool (ah m),.slice ww (aa m) si,.slice s1 (ag en) d1]) (i:=0) K2.o),(s0 T1.o),(s0 RMb.o)⟩
 rintro a' W1 ⟨rM,rV,ww,si,rfl,z0,z1,z2,z3⟩;obtain ⟨ru,K2,T1,RMb⟩:=aL z0 z1 z2 z3;clear z0 z1 z2 z3;simp only[putL,List.setIfInBounds_toArray,List.set_cons_zero,List.set_cons_succ];go_wp2;obtain ⟨lm,lv,kz⟩:=aS K2.o rfl rfl rfl;exact bodyPost_ret (v:=.agg #[.bool (ah m),.slice ww (aa m) si,.slice s1 (ag en) d1]) (by simp[results,results83,go_sem,lm,lv,kz]) rfl ⟨_,_,_,_,rfl,RMb.o,T1.o,ru.o⟩
theorem z1L (n m:Int)(en:Nat)(p1:Option Addr)(c1:Nat)(s1:Option Addr)(d1:Nat)(w:World)(h1:∀ s2 d2 W,RN W (.slice s2 (ag en) d2) en→CZ 77 #[.bool (ah n),.slice s2 (ag en) d2] W m)(r1:RN w (.slice p1 (aa n) c1) n.natAbs)(t1:RN w (.slice s1 (ag en) d1) en) :
 Calls Tryz.prog 70 #[.agg #[.bool (ah n),.slice p1 (aa n) c1,.slice s1 (ag en) d1]] w fun e w'=>∃ p c s d,e=.returned (.agg #[.bool (ah m),.slice p (aa m) c,.slice s (ag n.natAbs) d])∧RN w' (.slice p (aa m) c) m.natAbs∧RN w' (.slice s (ag n.natAbs) d) n.natAbs∧Below w.heap.size w w':=by
 obtain ⟨C1,R1,T1⟩:=ak h1 r1 t1;clear h1 r1 t1;go_enter func70,ntmps70
 go_upto_region 1 with fail
 refine az w [(#[.bool (ah n),.slice p1 (aa n) c1,.slice s1 (ag en) d1],54),(#[.bool false,.slice none 0 0,.slice none 0 0],54)] rfl ?_;rintro W0 ⟨k1,k2,hb⟩;have u6:=hid (show Below w.heap.size w W0 from hb);obtain ⟨R1,T1⟩:=aP u6.o R1 T1;obtain ⟨K1,K2⟩:=aB k1 k2;clear k1 k2 hb;go_wp2_with fail
 refine aN (fun a0 a' V=>∃ p8 p9 sj sw,a'=⟨putL [(3,.pointer (some ⟨w.heap.size,0,none⟩)),(4,.pointer (some ⟨w.heap.size,0,none⟩)),(5,.bool (ah n)),(6,.pointer (some ⟨w.heap.size,2,none⟩)),(7,.slice s1 (ag en) d1),(8,.agg #[.bool (ah m),.slice p8 (aa m) p9]),(9,.pointer (some ⟨w.heap.size,0,none⟩)),(10,.pointer (some ⟨w.heap.size,1,none⟩)),(11,.slice p1 (aa n) c1),(12,.agg #[.bool (ah m),.slice sj (aa m) sw,.slice p1 (aa n) c1])] a0.tmps,a0.defers⟩∧Below w.heap.size w V∧SBk V (w.heap.size+1) #[.bool (ah m),.slice sj (aa m) sw,.slice p1 (aa n) c1] 54∧RN V (.slice p1 (aa n) c1) n.natAbs∧RN V (.slice sj (aa m) sw) m.natAbs) ?_ ?_
 · refine bE 10 1 [3,4,5,6,7,8,9,10,11,12] [Rel.val (.pointer (some ⟨w.heap.size,0,none⟩)),Rel.val (.pointer (some ⟨w.heap.size,0,none⟩)),Rel.val (.bool (ah n)),Rel.val (.pointer (some ⟨w.heap.size,2,none⟩)),Rel.val (.slice s1 (ag en) d1),Rel.int m,Rel.val (.pointer (some ⟨w.heap.size,0,none⟩)),Rel.val (.pointer (some ⟨w.heap.size,1,none⟩)),Rel.val (.slice p1 (aa n) c1),⟨fun v W=>∃ pa ca,v=.agg #[.bool (ah m),.slice pa (aa m) ca,.slice p1 (aa n) c1]∧RN W (.slice pa (aa m) ca) m.natAbs,fun _ _ _ ⟨pa,ca,e,h0⟩ hb=>⟨pa,ca,e,h0.below hb⟩⟩] ?_ ?_
   · intro kM a W i HI hD Hr him
     have y1:=HI.o.rst 1 rfl;have l5:=(K1.o.below HI.o.world).cell (i:=0) rfl;have d9:=(K1.o.below HI.o.world).cell (i:=2) rfl;have lg:=(K1.o.below HI.o.world).cell (i:=1) rfl;obtain⟨X0,X1,X3,X2,X4,X6⟩:=HI.o.g6 0 3 1 4 3 6 2 5 4 7 6 9;obtain⟨X7,X8⟩:=HI.o.g2 7 10 8 11
     match i,him,Hr with
     | 0,_,Hi|1,_,Hi|2,_,Hi|3,_,Hi|4,_,Hi =>
       try have x0:=X0.t Hi.o
       try have x1:=X1.t Hi.o
       try have x3:=X3.t Hi.o
       refine aM rfl fun K' hK=>?_;go_simp;exact hK.o _ _ (HI.o.pw Hi.o)
     | 5,_,Hi =>
       have x2:=X2.q Hi.o;have x4:=X4.q Hi.o;refine aM rfl fun K' hK=>?_;go_simp;with_reducible refine(C1.o _ _ _ (T1.o.below HI.o.world)).mono ?_
       rintro e W' ⟨p8,p9,rfl,r9,hb⟩;exact hK.o _ _ ⟨HI.o.pc Hi.o hb ⟨p8,p9,rfl,r9⟩,trivial⟩
     | 6,_,Hi|7,_,Hi|8,_,Hi =>
       try have x6:=X6.t Hi.o
       try have x7:=X7.t Hi.o
       refine aM rfl fun K' hK=>?_;go_simp;exact hK.o _ _ (HI.o.pw Hi.o)
     | 9,_,Hi =>
       obtain⟨v',x5,p8,p9,e,r9⟩:=HI.o.at (i:=5) Hi.o (by kernel_rfl) (by decide);obtain rfl:=e;have x5:a.tmps[8]? = some (.agg #[.bool (ah m),.slice p8 (aa m) p9]):=x5;have kV:=hid r9;clear r9;have x8:=X8.q Hi.o;refine aM rfl fun K' hK=>?_;go_simp;exact hK.o _ _ ⟨HI.o.pv Hi.o ⟨p8,p9,rfl,kV.o⟩,trivial⟩
     | n+10,h,_=>exact absurd h (by omega)
   · intro kM a W HI hD HA
     obtain⟨v',x5,p8,p9,e,r9⟩:=HI.o.slots 5 (by decide) (HA.o 5 (by decide));obtain rfl:=e;have kV:=hid r9;clear r9;obtain⟨v',x9,sj,sw,e,rq⟩:=HI.o.slots 9 (by decide) (HA.o 9 (by decide));obtain rfl:=e;have gF:=hid rq;clear rq;have x9:a.tmps[12]? = some (.agg #[.bool (ah m),.slice sj (aa m) sw,.slice p1 (aa n) c1]):=x9;have pq:=hid HI.o.world;obtain ⟨K2,R1⟩:=aP pq.o K2 R1;have gy:=Lib.hid (u6.o.trans (pq.o.mono u6.o.size));have RM:=kV;have RMb:=gF;have y2:=HI.o.rst 2 rfl;obtain ⟨lm,lv,kz⟩:=aS K2.o rfl rfl rfl;obtain ⟨bv,bM,bV⟩:=cB K2.o;refine aY (t:=0) ?_;refine aM rfl fun K' hK=>?_;go_simp;refine hK.o _ _ ?_;clear hK;refine bQ ?_;have s0:∀ {v':Value} {n':Nat},RN W v' n'→RN (storeAll W (w.heap.size+1) 0 [.bool (ah m),.slice sj (aa m) sw,.slice p1 (aa n) c1]) v' n':=fun h'=>bi _ h' K2.o (by simp[bL]) (by simp[bA]);exact⟨rfl,p8,p9,sj,sw,(HI.o.finx ⟨HI.o.sx HA.o 0,HI.o.sx HA.o 1,HI.o.sx HA.o 2,HI.o.sx HA.o 3,HI.o.sx HA.o 4,x5,HI.o.sx HA.o 6,HI.o.sx HA.o 7,HI.o.sx HA.o 8,x9,trivial⟩ rfl),(ay (l:=[.bool (ah m),.slice sj (aa m) sw,.slice p1 (aa n) c1]) (i:=0) (by omega) gy.o),(dm (l:=[.bool (ah m),.slice sj (aa m) sw,.slice p1 (aa n) c1]) (i:=0) K2.o),(s0 R1.o),(s0 RMb.o)⟩
 rintro a' W1 ⟨p8,p9,sj,sw,rfl,z0,z1,z2,z3⟩;obtain ⟨ru,K2,R1,RMb⟩:=aL z0 z1 z2 z3;clear z0 z1 z2 z3;simp only[putL,List.setIfInBounds_toArray,List.set_cons_zero,List.set_cons_succ];go_wp2;obtain ⟨lm,lv,kz⟩:=aS K2.o rfl rfl rfl;exact bodyPost_ret (v:=.agg #[.bool (ah m),.slice sj (aa m) sw,.slice p1 (aa n) c1]) (by simp[results,results70,go_sem,lm,lv,kz]) rfl ⟨_,_,_,_,rfl,RMb.o,R1.o,ru.o⟩
theorem zX (n s:Int)(en:Nat)(p1:Option Addr)(c1:Nat)(s1:Option Addr)(d1:Nat)(w:World)(h1:∀ p1 c1 W,RN W (.slice p1 (aa n) c1) n.natAbs→CR 103 #[.agg #[.bool (ah n),.slice p1 (aa n) c1]] W (.int .i64 s))(r1:RN w (.slice p1 (aa n) c1) n.natAbs)(t1:RN w (.slice s1 (ag en) d1) en) :
 CR 69 #[.agg #[.bool (ah n),.slice p1 (aa n) c1,.slice s1 (ag en) d1]] w (.int .i64 s):=by
 obtain ⟨C1,R1,T1⟩:=ak h1 r1 t1;clear h1 r1 t1;go_enter func69,ntmps69
 go_upto_region 1 with fail
 refine az w [(#[.bool (ah n),.slice p1 (aa n) c1,.slice s1 (ag en) d1],54)] rfl ?_;rintro W0 ⟨k1,hb⟩;have u6:=hid (show Below w.heap.size w W0 from hb);have R1:=hid (R1.o.below u6.o);have K1:=hid k1;clear k1 hb;obtain ⟨l5,lg⟩:=av K1.o rfl rfl;go_wp2_with fail
 with_reducible refine(C1.o _ _ _ R1.o).mono ?_
 rintro e W1 ⟨rfl,hb⟩;clear l5 lg;have ru:=hbt u6 hb;clear hb;go_wp2;exact bodyPost_ret (v:=.int .i64 s) (by simp[results,results69,go_sem]) rfl ⟨rfl,ru.o⟩
theorem z1K (n1 n2 z n:Int)(en1 en2 en dn:Nat)(p1:Option Addr)(c1:Nat)(s1:Option Addr)(d1:Nat)(p2:Option Addr)(c2:Nat)(s2:Option Addr)(d2:Nat)(w:World)(h1:∀ p1 c1 p2 c2 W,RN W (.slice p1 (aa n1) c1) n1.natAbs→RN W (.slice p2 (aa n2) c2) n2.natAbs→CZ 73 #[.agg #[.bool (ah n1),.slice p1 (aa n1) c1],.agg #[.bool (ah n2),.slice p2 (aa n2) c2]] W z)(h2:∀ s1 d1 s2 d2 W,RN W (.slice s1 (ag en1) d1) en1→RN W (.slice s2 (ag en2) d2) en2→CN 74 #[.slice s1 (ag en1) d1,.slice s2 (ag en2) d2] W en)(h3:∀ p1 c1 s2 d2 W,RN W (.slice p1 (aa z) c1) z.natAbs→RN W (.slice s2 (ag en) d2) en→CF 72 #[.agg #[.bool (ah z),.slice p1 (aa z) c1],.slice s2 (ag en) d2] W n dn)(r1:RN w (.slice p1 (aa n1) c1) n1.natAbs)(t1:RN w (.slice s1 (ag en1) d1) en1)(r2:RN w (.slice p2 (aa n2) c2) n2.natAbs)(t2:RN w (.slice s2 (ag en2) d2) en2) :
 CF 49 #[.agg #[.bool (ah n1),.slice p1 (aa n1) c1,.slice s1 (ag en1) d1],.agg #[.bool (ah n2),.slice p2 (aa n2) c2,.slice s2 (ag en2) d2]] w n dn:=by
 obtain ⟨C1,C2,C3,R1,T1,R2,T2⟩:=dJ h1 h2 h3 r1 t1 r2 t2;clear h1 h2 h3 r1 t1 r2 t2;go_enter func49,ntmps49
 go_upto_region 1 with fail
 refine az w [(#[.bool (ah n1),.slice p1 (aa n1) c1,.slice s1 (ag en1) d1],54),(#[.bool (ah n2),.slice p2 (aa n2) c2,.slice s2 (ag en2) d2],54),(#[.bool false,.slice none 0 0,.slice none 0 0],54)] rfl ?_;rintro W0 ⟨k1,k2,k3,hb⟩;have u6:=hid (show Below w.heap.size w W0 from hb);obtain ⟨R1,T1,R2,T2⟩:=bB u6.o R1 T1 R2 T2;obtain ⟨K1,K2,K3⟩:=ak k1 k2 k3;clear k1 k2 k3 hb;go_wp2_with fail
 refine aN (fun a0 a' V=>∃ pu ol oM oV w9 wm wo wu,a'=⟨putL [(5,.pointer (some ⟨w.heap.size,0,none⟩)),(6,.agg #[.bool (ah n1),.slice p1 (aa n1) c1]),(7,.pointer (some ⟨w.heap.size+1,0,none⟩)),(8,.agg #[.bool (ah n2),.slice p2 (aa n2) c2]),(9,.agg #[.bool (ah z),.slice pu (aa z) ol]),(10,.pointer (some ⟨w.heap.size,2,none⟩)),(11,.slice s1 (ag en1) d1),(12,.pointer (some ⟨w.heap.size+1,2,none⟩)),(13,.slice s2 (ag en2) d2),(14,.slice oM (ag en) oV),(15,.agg #[.bool (ah n),.slice w9 (aa n) wm,.slice wo (ag dn) wu])] a0.tmps,a0.defers⟩∧Below w.heap.size w V∧SBk V (w.heap.size+1+1) #[.bool (ah n),.slice w9 (aa n) wm,.slice wo (ag dn) wu] 54∧RN V (.slice w9 (aa n) wm) (n).natAbs∧RN V (.slice wo (ag dn) wu) (dn)) ?_ ?_
 · refine bE 11 1 [5,6,7,8,9,10,11,12,13,14,15] [Rel.val (.pointer (some ⟨w.heap.size,0,none⟩)),Rel.val (.agg #[.bool (ah n1),.slice p1 (aa n1) c1]),Rel.val (.pointer (some ⟨w.heap.size+1,0,none⟩)),Rel.val (.agg #[.bool (ah n2),.slice p2 (aa n2) c2]),Rel.int z,Rel.val (.pointer (some ⟨w.heap.size,2,none⟩)),Rel.val (.slice s1 (ag en1) d1),Rel.val (.pointer (some ⟨w.heap.size+1,2,none⟩)),Rel.val (.slice s2 (ag en2) d2),Rel.nat en,⟨fun v W=>∃ p c s d,v=.agg #[.bool (ah n),.slice p (aa n) c,.slice s (ag dn) d]∧RN W (.slice p (aa n) c) (n).natAbs∧RN W (.slice s (ag dn) d) (dn),fun _ _ _ ⟨p,c,s,d,e,h0,h1⟩ hb=>⟨p,c,s,d,e,h0.below hb,h1.below hb⟩⟩] ?_ ?_
   · intro kM a W i HI hD Hr him
     obtain⟨y2,y3⟩:=HI.o.s2 2 3;obtain ⟨l5,lg⟩:=av (K1.o.below HI.o.world) rfl rfl;obtain ⟨lm,lv⟩:=av (K2.o.below HI.o.world) rfl rfl;have d9:=(K1.o.below HI.o.world).cell (i:=2) rfl;have kz:=(K2.o.below HI.o.world).cell (i:=2) rfl;obtain⟨X0,X2,X1,X3,X5,X7⟩:=HI.o.g6 0 5 2 7 1 6 3 8 5 10 7 12;obtain⟨X6,X8⟩:=HI.o.g2 6 11 8 13
     match i,him,Hr with
     | 0,_,Hi|1,_,Hi|2,_,Hi|3,_,Hi =>
       try have x0:=X0.t Hi.o
       try have x2:=X2.t Hi.o
       refine aM rfl fun K' hK=>?_;go_simp;exact hK.o _ _ (HI.o.pw Hi.o)
     | 4,_,Hi =>
       have x1:=X1.q Hi.o;have x3:=X3.q Hi.o;refine aM rfl fun K' hK=>?_;go_simp;with_reducible refine(C1.o _ _ _ _ _ (R1.o.below HI.o.world) (R2.o.below HI.o.world)).mono ?_
       rintro e W' ⟨pu,ol,rfl,mi,hb⟩;exact hK.o _ _ ⟨HI.o.pc Hi.o hb ⟨pu,ol,rfl,mi⟩,trivial⟩
     | 5,_,Hi|6,_,Hi|7,_,Hi|8,_,Hi =>
       try have x5:=X5.t Hi.o
       try have x7:=X7.t Hi.o
       refine aM rfl fun K' hK=>?_;go_simp;exact hK.o _ _ (HI.o.pw Hi.o)
     | 9,_,Hi =>
       have x6:=X6.q Hi.o;have x8:=X8.q Hi.o;refine aM rfl fun K' hK=>?_;go_simp;with_reducible refine(C2.o _ _ _ _ _ (T1.o.below HI.o.world) (T2.o.below HI.o.world)).mono ?_
       rintro e W' ⟨oM,oV,rfl,rq,hb⟩;exact hK.o _ _ ⟨HI.o.pc Hi.o hb ⟨oM,oV,rfl,rq⟩,trivial⟩
     | 10,_,Hi =>
       obtain⟨v',x4,pu,ol,e,mi⟩:=HI.o.at (i:=4) Hi.o (by kernel_rfl) (by decide);obtain rfl:=e;have x4:a.tmps[9]? = some (.agg #[.bool (ah z),.slice pu (aa z) ol]):=x4;have dY:=hid mi;clear mi;obtain⟨v',x9,oM,oV,e,rq⟩:=HI.o.at (i:=9) Hi.o (by kernel_rfl) (by decide);obtain rfl:=e;have x9:a.tmps[14]? = some (.slice oM (ag en) oV):=x9;have gF:=hid rq;clear rq;refine aM rfl fun K' hK=>?_;go_simp;with_reducible refine(C3.o _ _ _ _ _ dY.o gF.o).mono ?_
       rintro e W' ⟨w9,wm,wo,wu,rfl,dx,dz,hb⟩;exact hK.o _ _ ⟨HI.o.pc Hi.o hb ⟨w9,wm,wo,wu,rfl,dx,dz⟩,trivial⟩
     | n+11,h,_=>exact absurd h (by omega)
   · intro kM a W HI hD HA
     obtain⟨v',x4,pu,ol,e,mi⟩:=HI.o.slots 4 (by decide) (HA.o 4 (by decide));obtain rfl:=e;have dY:=hid mi;clear mi;obtain⟨v',x9,oM,oV,e,rq⟩:=HI.o.slots 9 (by decide) (HA.o 9 (by decide));obtain rfl:=e;have gF:=hid rq;clear rq;obtain⟨v',x10,w9,wm,wo,wu,e,dx,dz⟩:=HI.o.slots 10 (by decide) (HA.o 10 (by decide));obtain rfl:=e;have af:=hid dx;clear dx;have au:=hid dz;clear dz;have x10:a.tmps[15]? = some (.agg #[.bool (ah n),.slice w9 (aa n) wm,.slice wo (ag dn) wu]):=x10;have pq:=hid HI.o.world;obtain ⟨gy,K3⟩:=aB (u6.o.trans (pq.o.mono u6.o.size)) (K3.o.below pq.o);have RZ:=dY;have RE:=gF;have RQ:=af;have TQ:=au;have y4:=HI.o.rst 4 rfl;obtain ⟨bg,bn,bq⟩:=aS K3.o rfl rfl rfl;obtain ⟨u03,u04,u05⟩:=cB K3.o;refine aY (t:=0) ?_;refine aM rfl fun K' hK=>?_;go_simp;refine hK.o _ _ ?_;clear hK;refine bQ ?_;have s0:∀ {v':Value} {n':Nat},RN W v' n'→RN (storeAll W (w.heap.size+1+1) 0 [.bool (ah n),.slice w9 (aa n) wm,.slice wo (ag dn) wu]) v' n':=fun h'=>bi _ h' K3.o (by simp[bL]) (by simp[bA]);exact⟨rfl,pu,ol,oM,oV,w9,wm,wo,wu,(HI.o.finx ⟨HI.o.sx HA.o 0,HI.o.sx HA.o 1,HI.o.sx HA.o 2,HI.o.sx HA.o 3,x4,HI.o.sx HA.o 5,HI.o.sx HA.o 6,HI.o.sx HA.o 7,HI.o.sx HA.o 8,x9,x10,trivial⟩ rfl),(ay (l:=[.bool (ah n),.slice w9 (aa n) wm,.slice wo (ag dn) wu]) (i:=0) (by omega) gy.o),(dm (l:=[.bool (ah n),.slice w9 (aa n) wm,.slice wo (ag dn) wu]) (i:=0) K3.o),(s0 RQ.o),(s0 TQ.o)⟩
 rintro a' W1 ⟨pu,ol,oM,oV,w9,wm,wo,wu,rfl,z0,z1,z2,z3⟩;obtain ⟨ru,K3,RQ,TQ⟩:=aL z0 z1 z2 z3;clear z0 z1 z2 z3;simp only[putL,List.setIfInBounds_toArray,List.set_cons_zero,List.set_cons_succ];go_wp2;obtain ⟨bg,bn,bq⟩:=aS K3.o rfl rfl rfl;exact bodyPost_ret (v:=.agg #[.bool (ah n),.slice w9 (aa n) wm,.slice wo (ag dn) wu]) (by simp[results,results49,go_sem,bg,bn,bq]) rfl ⟨_,_,_,_,rfl,RQ.o,TQ.o,ru.o⟩
