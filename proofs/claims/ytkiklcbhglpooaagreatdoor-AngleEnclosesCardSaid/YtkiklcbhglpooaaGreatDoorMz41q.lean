/- texts -/
import Derived.Test.YtkiklcbhglpooaaGreatDoorMz36q
open Go.Proofs.Tryz
set_option maxRecDepth 100000
set_option maxHeartbeats 20000000
open Go.Lib (hid)
namespace Go.Proofs.YtkiklcbhglpooaaGreatDoor
open Go.RowKit Go.Gb
theorem yC (k n:Int)(dn:Nat)  (w:World)(h1:∀ W,CZ 66 #[.int .i64 k] W n)(h2:∀ W,CN 67 #[.int .u32 1] W dn)  :
 CF 27 #[.int .i64 k] w n dn:=by
 have C1:=hid h1;have C2:=hid h2;clear h1 h2;go_enter func27,ntmps27
 go_upto_region 1 with fail
 refine ak w [(#[.bool false,.slice none 0 0,.slice none 0 0],50)] rfl ?_;rintro W0 ⟨k1,hb⟩;have wm:=hid (show Below w.heap.size w W0 from hb);have K1:=hid k1;clear k1 hb;go_wp2_with fail
 with_reducible refine(C1.o _).mono ?_
 rintro e W1 ⟨p_1,c_1,rfl,u0u,hb⟩;have K1:=hid (K1.o.below hb);have sj:=hbt wm hb;have RN1:=hid u0u;clear hb u0u;go_wp2_with fail
 with_reducible refine(C2.o _).mono ?_
 rintro e W2 ⟨p_2,c_2,rfl,u0v,hb⟩;obtain ⟨K1,RN1⟩:=aO hb K1 RN1;have HB2:=hbt sj hb;have RD1:=hid u0v;clear hb u0v;obtain ⟨bv,bM,dx⟩:=aC K1.o rfl rfl rfl;obtain ⟨u0O,u0P,u0Q⟩:=bB K1.o;go_wp2;exact bodyPost_ret (v:=.agg #[.bool (ah n),.slice p_1 (aa n) c_1,.slice p_2 (ag dn) c_2]) (by simp[results,results27,go_sem,bv,bM,dx]) rfl ⟨_,_,_,_,rfl,(bf [.bool (ah n),.slice p_1 (aa n) c_1,.slice p_2 (ag dn) c_2] RN1.o K1.o (by simp[bJ]) (by simp[aW])),(bf [.bool (ah n),.slice p_1 (aa n) c_1,.slice p_2 (ag dn) c_2] RD1.o K1.o (by simp[bJ]) (by simp[aW])),(aj (l:=[.bool (ah n),.slice p_1 (aa n) c_1,.slice p_2 (ag dn) c_2]) (i:=0) (by omega) HB2.o)⟩
theorem z2W (n m:Int)(en:Nat)(p1:Option Addr)(c1:Nat)(s1:Option Addr)(d1:Nat)(w:World)(h1:∀ p1 c1 W,RN W (.slice p1 (aa n) c1) n.natAbs→CZ 148 #[.agg #[.bool (ah n),.slice p1 (aa n) c1]] W m)(r1:RN w (.slice p1 (aa n) c1) n.natAbs)(t1:RN w (.slice s1 (ag en) d1) en) :
 CF 105 #[.agg #[.bool (ah n),.slice p1 (aa n) c1,.slice s1 (ag en) d1]] w m en:=by
 obtain ⟨C1,R1,T1⟩:=au h1 r1 t1;clear h1 r1 t1;go_enter func105,ntmps105
 go_upto_region 1 with fail
 refine ak w [(#[.bool (ah n),.slice p1 (aa n) c1,.slice s1 (ag en) d1],50),(#[.bool false,.slice none 0 0,.slice none 0 0],50)] rfl ?_;rintro W0 ⟨k1,k2,hb⟩;have wm:=hid (show Below w.heap.size w W0 from hb);obtain ⟨R1,T1⟩:=aO wm.o R1 T1;obtain ⟨K1,K2⟩:=aD k1 k2;clear k1 k2 hb;go_wp2_with fail
 refine az (fun a0 a' V=>∃ kV gy ma mf,a'=⟨putL [(3,.pointer (some ⟨w.heap.size,0,none⟩)),(4,.agg #[.bool (ah n),.slice p1 (aa n) c1]),(5,.agg #[.bool (ah m),.slice kV (aa m) gy]),(6,.pointer (some ⟨w.heap.size,2,none⟩)),(7,.slice s1 (ag en) d1),(8,.agg #[.bool (ah m),.slice ma (aa m) mf,.slice s1 (ag en) d1])] a0.tmps,a0.defers⟩∧Below w.heap.size w V∧SBk V (w.heap.size+1) #[.bool (ah m),.slice ma (aa m) mf,.slice s1 (ag en) d1] 50∧RN V (.slice s1 (ag en) d1) en∧RN V (.slice ma (aa m) mf) m.natAbs) ?_ ?_
 · refine aL 6 1 [3,4,5,6,7,8] [Rel.val (.pointer (some ⟨w.heap.size,0,none⟩)),Rel.val (.agg #[.bool (ah n),.slice p1 (aa n) c1]),Rel.int m,Rel.val (.pointer (some ⟨w.heap.size,2,none⟩)),Rel.val (.slice s1 (ag en) d1),⟨fun v W=>∃ pa ca,v=.agg #[.bool (ah m),.slice pa (aa m) ca,.slice s1 (ag en) d1]∧RN W (.slice pa (aa m) ca) m.natAbs,fun _ _ _ ⟨pa,ca,e,h0⟩ hb=>⟨pa,ca,e,h0.below hb⟩⟩] ?_ ?_
   · intro mi a W i HI hD Hr him
     have y1:=HI.o.rst 1 rfl;obtain ⟨bv,bM,dx⟩:=aC (K1.o.below HI.o.world) rfl rfl rfl;obtain⟨X0,X1,X3⟩:=HI.o.g3 0 3 1 4 3 6;have X4:=HI.o.rg 4 7 rfl
     match i,him,Hr with
     | 0,_,Hi|1,_,Hi =>
       try have x0:=X0.t Hi.o
       refine aA rfl fun K' hK=>?_;go_simp;exact hK.o _ _ (HI.o.pw Hi.o)
     | 2,_,Hi =>
       have x1:=X1.q Hi.o;refine aA rfl fun K' hK=>?_;go_simp;with_reducible refine(C1.o _ _ _ (R1.o.below HI.o.world)).mono ?_
       rintro e W' ⟨kV,gy,rfl,bV,hb⟩;exact hK.o _ _ ⟨HI.o.pc Hi.o hb ⟨kV,gy,rfl,bV⟩,trivial⟩
     | 3,_,Hi|4,_,Hi =>
       try have x3:=X3.t Hi.o
       refine aA rfl fun K' hK=>?_;go_simp;exact hK.o _ _ (HI.o.pw Hi.o)
     | 5,_,Hi =>
       obtain⟨v',x2,kV,gy,e,bV⟩:=HI.o.at (i:=2) Hi.o (by kernel_rfl) (by decide);obtain rfl:=e;have x2:a.tmps[5]? = some (.agg #[.bool (ah m),.slice kV (aa m) gy]):=x2;have u0n:=hid bV;clear bV;have x4:=X4.q Hi.o;refine aA rfl fun K' hK=>?_;go_simp;exact hK.o _ _ ⟨HI.o.pv Hi.o ⟨kV,gy,rfl,u0n.o⟩,trivial⟩
     | n+6,h,_=>exact absurd h (by omega)
   · intro mi a W HI hD HA
     obtain⟨v',x2,kV,gy,e,bV⟩:=HI.o.slots 2 (by decide) (HA.o 2 (by decide));obtain rfl:=e;have u0n:=hid bV;clear bV;obtain⟨v',x5,ma,mf,e,kz⟩:=HI.o.slots 5 (by decide) (HA.o 5 (by decide));obtain rfl:=e;have u0c:=hid kz;clear kz;have x5:a.tmps[8]? = some (.agg #[.bool (ah m),.slice ma (aa m) mf,.slice s1 (ag en) d1]):=x5;have wo:=hid HI.o.world;obtain ⟨K2,T1⟩:=aO wo.o K2 T1;have l5:=Lib.hid (wm.o.trans (wo.o.mono wm.o.size));have RM:=u0n;have RMb:=u0c;have y2:=HI.o.rst 2 rfl;obtain ⟨af,u00,kM⟩:=aC K2.o rfl rfl rfl;obtain ⟨u0z,u0A,u0B⟩:=bB K2.o;refine aZ (t:=0) ?_;refine aA rfl fun K' hK=>?_;go_simp;refine hK.o _ _ ?_;clear hK;refine aV ?_;have s0:∀ {v':Value} {n':Nat},RN W v' n'→RN (storeAll W (w.heap.size+1) 0 [.bool (ah m),.slice ma (aa m) mf,.slice s1 (ag en) d1]) v' n':=fun h'=>bf _ h' K2.o (by simp[bJ]) (by simp[aW]);exact⟨rfl,kV,gy,ma,mf,(HI.o.finx ⟨HI.o.sx HA.o 0,HI.o.sx HA.o 1,x2,HI.o.sx HA.o 3,HI.o.sx HA.o 4,x5,trivial⟩ rfl),(aj (l:=[.bool (ah m),.slice ma (aa m) mf,.slice s1 (ag en) d1]) (i:=0) (by omega) l5.o),(bX (l:=[.bool (ah m),.slice ma (aa m) mf,.slice s1 (ag en) d1]) (i:=0) K2.o),(s0 T1.o),(s0 RMb.o)⟩
 rintro a' W1 ⟨kV,gy,ma,mf,rfl,z0,z1,z2,z3⟩;obtain ⟨sj,K2,T1,RMb⟩:=aM z0 z1 z2 z3;clear z0 z1 z2 z3;simp only[putL,List.setIfInBounds_toArray,List.set_cons_zero,List.set_cons_succ];go_wp2;obtain ⟨af,u00,kM⟩:=aC K2.o rfl rfl rfl;exact bodyPost_ret (v:=.agg #[.bool (ah m),.slice ma (aa m) mf,.slice s1 (ag en) d1]) (by simp[results,results105,go_sem,af,u00,kM]) rfl ⟨_,_,_,_,rfl,RMb.o,T1.o,sj.o⟩
theorem z2Y (n m:Int)(en:Nat)(p1:Option Addr)(c1:Nat)(s1:Option Addr)(d1:Nat)(w:World)(h1:∀ s2 d2 W,RN W (.slice s2 (ag en) d2) en→CZ 78 #[.bool (ah n),.slice s2 (ag en) d2] W m)(r1:RN w (.slice p1 (aa n) c1) n.natAbs)(t1:RN w (.slice s1 (ag en) d1) en) :
 Calls Tryz.prog 132 #[.agg #[.bool (ah n),.slice p1 (aa n) c1,.slice s1 (ag en) d1]] w fun e w'=>∃ p c s d,e=.returned (.agg #[.bool (ah m),.slice p (aa m) c,.slice s (ag n.natAbs) d])∧RN w' (.slice p (aa m) c) m.natAbs∧RN w' (.slice s (ag n.natAbs) d) n.natAbs∧Below w.heap.size w w':=by
 obtain ⟨C1,R1,T1⟩:=au h1 r1 t1;clear h1 r1 t1;go_enter func132,ntmps132
 go_upto_region 1 with fail
 refine ak w [(#[.bool (ah n),.slice p1 (aa n) c1,.slice s1 (ag en) d1],50),(#[.bool false,.slice none 0 0,.slice none 0 0],50)] rfl ?_;rintro W0 ⟨k1,k2,hb⟩;have wm:=hid (show Below w.heap.size w W0 from hb);obtain ⟨R1,T1⟩:=aO wm.o R1 T1;obtain ⟨K1,K2⟩:=aD k1 k2;clear k1 k2 hb;go_wp2_with fail
 refine az (fun a0 a' V=>∃ fq fQ l6 lg,a'=⟨putL [(3,.pointer (some ⟨w.heap.size,0,none⟩)),(4,.pointer (some ⟨w.heap.size,0,none⟩)),(5,.bool (ah n)),(6,.pointer (some ⟨w.heap.size,2,none⟩)),(7,.slice s1 (ag en) d1),(8,.agg #[.bool (ah m),.slice fq (aa m) fQ]),(9,.pointer (some ⟨w.heap.size,0,none⟩)),(10,.pointer (some ⟨w.heap.size,1,none⟩)),(11,.slice p1 (aa n) c1),(12,.agg #[.bool (ah m),.slice l6 (aa m) lg,.slice p1 (aa n) c1])] a0.tmps,a0.defers⟩∧Below w.heap.size w V∧SBk V (w.heap.size+1) #[.bool (ah m),.slice l6 (aa m) lg,.slice p1 (aa n) c1] 50∧RN V (.slice p1 (aa n) c1) n.natAbs∧RN V (.slice l6 (aa m) lg) m.natAbs) ?_ ?_
 · refine aL 10 1 [3,4,5,6,7,8,9,10,11,12] [Rel.val (.pointer (some ⟨w.heap.size,0,none⟩)),Rel.val (.pointer (some ⟨w.heap.size,0,none⟩)),Rel.val (.bool (ah n)),Rel.val (.pointer (some ⟨w.heap.size,2,none⟩)),Rel.val (.slice s1 (ag en) d1),Rel.int m,Rel.val (.pointer (some ⟨w.heap.size,0,none⟩)),Rel.val (.pointer (some ⟨w.heap.size,1,none⟩)),Rel.val (.slice p1 (aa n) c1),⟨fun v W=>∃ pa ca,v=.agg #[.bool (ah m),.slice pa (aa m) ca,.slice p1 (aa n) c1]∧RN W (.slice pa (aa m) ca) m.natAbs,fun _ _ _ ⟨pa,ca,e,h0⟩ hb=>⟨pa,ca,e,h0.below hb⟩⟩] ?_ ?_
   · intro mi a W i HI hD Hr him
     have y1:=HI.o.rst 1 rfl;have bv:=(K1.o.below HI.o.world).cell (i:=0) rfl;have dx:=(K1.o.below HI.o.world).cell (i:=2) rfl;have bM:=(K1.o.below HI.o.world).cell (i:=1) rfl;obtain⟨X0,X1,X3,X2,X4,X6⟩:=HI.o.g6 0 3 1 4 3 6 2 5 4 7 6 9;obtain⟨X7,X8⟩:=HI.o.g2 7 10 8 11
     match i,him,Hr with
     | 0,_,Hi|1,_,Hi|2,_,Hi|3,_,Hi|4,_,Hi =>
       try have x0:=X0.t Hi.o
       try have x1:=X1.t Hi.o
       try have x3:=X3.t Hi.o
       refine aA rfl fun K' hK=>?_;go_simp;exact hK.o _ _ (HI.o.pw Hi.o)
     | 5,_,Hi =>
       have x2:=X2.q Hi.o;have x4:=X4.q Hi.o;refine aA rfl fun K' hK=>?_;go_simp;with_reducible refine(C1.o _ _ _ (T1.o.below HI.o.world)).mono ?_
       rintro e W' ⟨fq,fQ,rfl,kz,hb⟩;exact hK.o _ _ ⟨HI.o.pc Hi.o hb ⟨fq,fQ,rfl,kz⟩,trivial⟩
     | 6,_,Hi|7,_,Hi|8,_,Hi =>
       try have x6:=X6.t Hi.o
       try have x7:=X7.t Hi.o
       refine aA rfl fun K' hK=>?_;go_simp;exact hK.o _ _ (HI.o.pw Hi.o)
     | 9,_,Hi =>
       obtain⟨v',x5,fq,fQ,e,kz⟩:=HI.o.at (i:=5) Hi.o (by kernel_rfl) (by decide);obtain rfl:=e;have x5:a.tmps[8]? = some (.agg #[.bool (ah m),.slice fq (aa m) fQ]):=x5;have u0c:=hid kz;clear kz;have x8:=X8.q Hi.o;refine aA rfl fun K' hK=>?_;go_simp;exact hK.o _ _ ⟨HI.o.pv Hi.o ⟨fq,fQ,rfl,u0c.o⟩,trivial⟩
     | n+10,h,_=>exact absurd h (by omega)
   · intro mi a W HI hD HA
     obtain⟨v',x5,fq,fQ,e,kz⟩:=HI.o.slots 5 (by decide) (HA.o 5 (by decide));obtain rfl:=e;have u0c:=hid kz;clear kz;obtain⟨v',x9,l6,lg,e,wu⟩:=HI.o.slots 9 (by decide) (HA.o 9 (by decide));obtain rfl:=e;have u01:=hid wu;clear wu;have x9:a.tmps[12]? = some (.agg #[.bool (ah m),.slice l6 (aa m) lg,.slice p1 (aa n) c1]):=x9;have wo:=hid HI.o.world;obtain ⟨K2,R1⟩:=aO wo.o K2 R1;have l5:=Lib.hid (wm.o.trans (wo.o.mono wm.o.size));have RM:=u0c;have RMb:=u01;have y2:=HI.o.rst 2 rfl;obtain ⟨af,u00,kM⟩:=aC K2.o rfl rfl rfl;obtain ⟨u0z,u0A,u0B⟩:=bB K2.o;refine aZ (t:=0) ?_;refine aA rfl fun K' hK=>?_;go_simp;refine hK.o _ _ ?_;clear hK;refine aV ?_;have s0:∀ {v':Value} {n':Nat},RN W v' n'→RN (storeAll W (w.heap.size+1) 0 [.bool (ah m),.slice l6 (aa m) lg,.slice p1 (aa n) c1]) v' n':=fun h'=>bf _ h' K2.o (by simp[bJ]) (by simp[aW]);exact⟨rfl,fq,fQ,l6,lg,(HI.o.finx ⟨HI.o.sx HA.o 0,HI.o.sx HA.o 1,HI.o.sx HA.o 2,HI.o.sx HA.o 3,HI.o.sx HA.o 4,x5,HI.o.sx HA.o 6,HI.o.sx HA.o 7,HI.o.sx HA.o 8,x9,trivial⟩ rfl),(aj (l:=[.bool (ah m),.slice l6 (aa m) lg,.slice p1 (aa n) c1]) (i:=0) (by omega) l5.o),(bX (l:=[.bool (ah m),.slice l6 (aa m) lg,.slice p1 (aa n) c1]) (i:=0) K2.o),(s0 R1.o),(s0 RMb.o)⟩
 rintro a' W1 ⟨fq,fQ,l6,lg,rfl,z0,z1,z2,z3⟩;obtain ⟨sj,K2,R1,RMb⟩:=aM z0 z1 z2 z3;clear z0 z1 z2 z3;simp only[putL,List.setIfInBounds_toArray,List.set_cons_zero,List.set_cons_succ];go_wp2;obtain ⟨af,u00,kM⟩:=aC K2.o rfl rfl rfl;exact bodyPost_ret (v:=.agg #[.bool (ah m),.slice l6 (aa m) lg,.slice p1 (aa n) c1]) (by simp[results,results132,go_sem,af,u00,kM]) rfl ⟨_,_,_,_,rfl,RMb.o,R1.o,sj.o⟩
theorem z0V (n s:Int)(en:Nat)(p1:Option Addr)(c1:Nat)(s1:Option Addr)(d1:Nat)(w:World)(h1:∀ p1 c1 W,RN W (.slice p1 (aa n) c1) n.natAbs→CR 74 #[.agg #[.bool (ah n),.slice p1 (aa n) c1]] W (.int .i64 s))(r1:RN w (.slice p1 (aa n) c1) n.natAbs)(t1:RN w (.slice s1 (ag en) d1) en) :
 CR 134 #[.agg #[.bool (ah n),.slice p1 (aa n) c1,.slice s1 (ag en) d1]] w (.int .i64 s):=by
 obtain ⟨C1,R1,T1⟩:=au h1 r1 t1;clear h1 r1 t1;go_enter func134,ntmps134
 go_upto_region 1 with fail
 refine ak w [(#[.bool (ah n),.slice p1 (aa n) c1,.slice s1 (ag en) d1],50)] rfl ?_;rintro W0 ⟨k1,hb⟩;have wm:=hid (show Below w.heap.size w W0 from hb);have R1:=hid (R1.o.below wm.o);have K1:=hid k1;clear k1 hb;obtain ⟨bv,bM⟩:=ay K1.o rfl rfl;go_wp2_with fail
 with_reducible refine(C1.o _ _ _ R1.o).mono ?_
 rintro e W1 ⟨rfl,hb⟩;clear bv bM;have sj:=hbt wm hb;clear hb;go_wp2;exact bodyPost_ret (v:=.int .i64 s) (by simp[results,results134,go_sem]) rfl ⟨rfl,sj.o⟩
theorem z2X (n1 n2 z n:Int)(en1 en2 en dn:Nat)(p1:Option Addr)(c1:Nat)(s1:Option Addr)(d1:Nat)(p2:Option Addr)(c2:Nat)(s2:Option Addr)(d2:Nat)(w:World)(h1:∀ p1 c1 p2 c2 W,RN W (.slice p1 (aa n1) c1) n1.natAbs→RN W (.slice p2 (aa n2) c2) n2.natAbs→CZ 80 #[.agg #[.bool (ah n1),.slice p1 (aa n1) c1],.agg #[.bool (ah n2),.slice p2 (aa n2) c2]] W z)(h2:∀ s1 d1 s2 d2 W,RN W (.slice s1 (ag en1) d1) en1→RN W (.slice s2 (ag en2) d2) en2→CN 79 #[.slice s1 (ag en1) d1,.slice s2 (ag en2) d2] W en)(h3:∀ p1 c1 s2 d2 W,RN W (.slice p1 (aa z) c1) z.natAbs→RN W (.slice s2 (ag en) d2) en→CF 76 #[.agg #[.bool (ah z),.slice p1 (aa z) c1],.slice s2 (ag en) d2] W n dn)(r1:RN w (.slice p1 (aa n1) c1) n1.natAbs)(t1:RN w (.slice s1 (ag en1) d1) en1)(r2:RN w (.slice p2 (aa n2) c2) n2.natAbs)(t2:RN w (.slice s2 (ag en2) d2) en2) :
 CF 30 #[.agg #[.bool (ah n1),.slice p1 (aa n1) c1,.slice s1 (ag en1) d1],.agg #[.bool (ah n2),.slice p2 (aa n2) c2,.slice s2 (ag en2) d2]] w n dn:=by
 obtain ⟨C1,C2,C3,R1,T1,R2,T2⟩:=dQ h1 h2 h3 r1 t1 r2 t2;clear h1 h2 h3 r1 t1 r2 t2;go_enter func30,ntmps30
 go_upto_region 1 with fail
 refine ak w [(#[.bool (ah n1),.slice p1 (aa n1) c1,.slice s1 (ag en1) d1],50),(#[.bool (ah n2),.slice p2 (aa n2) c2,.slice s2 (ag en2) d2],50),(#[.bool false,.slice none 0 0,.slice none 0 0],50)] rfl ?_;rintro W0 ⟨k1,k2,k3,hb⟩;have wm:=hid (show Below w.heap.size w W0 from hb);obtain ⟨R1,T1,R2,T2⟩:=bR wm.o R1 T1 R2 T2;obtain ⟨K1,K2,K3⟩:=au k1 k2 k3;clear k1 k2 k3 hb;go_wp2_with fail
 refine az (fun a0 a' V=>∃ dz dX u6 w9 sw rM rV p8,a'=⟨putL [(5,.pointer (some ⟨w.heap.size,0,none⟩)),(6,.agg #[.bool (ah n1),.slice p1 (aa n1) c1]),(7,.pointer (some ⟨w.heap.size+1,0,none⟩)),(8,.agg #[.bool (ah n2),.slice p2 (aa n2) c2]),(9,.agg #[.bool (ah z),.slice dz (aa z) dX]),(10,.pointer (some ⟨w.heap.size,2,none⟩)),(11,.slice s1 (ag en1) d1),(12,.pointer (some ⟨w.heap.size+1,2,none⟩)),(13,.slice s2 (ag en2) d2),(14,.slice u6 (ag en) w9),(15,.agg #[.bool (ah n),.slice sw (aa n) rM,.slice rV (ag dn) p8])] a0.tmps,a0.defers⟩∧Below w.heap.size w V∧SBk V (w.heap.size+1+1) #[.bool (ah n),.slice sw (aa n) rM,.slice rV (ag dn) p8] 50∧RN V (.slice sw (aa n) rM) (n).natAbs∧RN V (.slice rV (ag dn) p8) (dn)) ?_ ?_
 · refine aL 11 1 [5,6,7,8,9,10,11,12,13,14,15] [Rel.val (.pointer (some ⟨w.heap.size,0,none⟩)),Rel.val (.agg #[.bool (ah n1),.slice p1 (aa n1) c1]),Rel.val (.pointer (some ⟨w.heap.size+1,0,none⟩)),Rel.val (.agg #[.bool (ah n2),.slice p2 (aa n2) c2]),Rel.int z,Rel.val (.pointer (some ⟨w.heap.size,2,none⟩)),Rel.val (.slice s1 (ag en1) d1),Rel.val (.pointer (some ⟨w.heap.size+1,2,none⟩)),Rel.val (.slice s2 (ag en2) d2),Rel.nat en,⟨fun v W=>∃ p c s d,v=.agg #[.bool (ah n),.slice p (aa n) c,.slice s (ag dn) d]∧RN W (.slice p (aa n) c) (n).natAbs∧RN W (.slice s (ag dn) d) (dn),fun _ _ _ ⟨p,c,s,d,e,h0,h1⟩ hb=>⟨p,c,s,d,e,h0.below hb,h1.below hb⟩⟩] ?_ ?_
   · intro mi a W i HI hD Hr him
     obtain⟨y2,y3⟩:=HI.o.s2 2 3;obtain ⟨bv,bM⟩:=ay (K1.o.below HI.o.world) rfl rfl;obtain ⟨af,u00⟩:=ay (K2.o.below HI.o.world) rfl rfl;have dx:=(K1.o.below HI.o.world).cell (i:=2) rfl;have kM:=(K2.o.below HI.o.world).cell (i:=2) rfl;obtain⟨X0,X2,X1,X3,X5,X7⟩:=HI.o.g6 0 5 2 7 1 6 3 8 5 10 7 12;obtain⟨X6,X8⟩:=HI.o.g2 6 11 8 13
     match i,him,Hr with
     | 0,_,Hi|1,_,Hi|2,_,Hi|3,_,Hi =>
       try have x0:=X0.t Hi.o
       try have x2:=X2.t Hi.o
       refine aA rfl fun K' hK=>?_;go_simp;exact hK.o _ _ (HI.o.pw Hi.o)
     | 4,_,Hi =>
       have x1:=X1.q Hi.o;have x3:=X3.q Hi.o;refine aA rfl fun K' hK=>?_;go_simp;with_reducible refine(C1.o _ _ _ _ _ (R1.o.below HI.o.world) (R2.o.below HI.o.world)).mono ?_
       rintro e W' ⟨dz,dX,rfl,u02,hb⟩;exact hK.o _ _ ⟨HI.o.pc Hi.o hb ⟨dz,dX,rfl,u02⟩,trivial⟩
     | 5,_,Hi|6,_,Hi|7,_,Hi|8,_,Hi =>
       try have x5:=X5.t Hi.o
       try have x7:=X7.t Hi.o
       refine aA rfl fun K' hK=>?_;go_simp;exact hK.o _ _ (HI.o.pw Hi.o)
     | 9,_,Hi =>
       have x6:=X6.q Hi.o;have x8:=X8.q Hi.o;refine aA rfl fun K' hK=>?_;go_simp;with_reducible refine(C2.o _ _ _ _ _ (T1.o.below HI.o.world) (T2.o.below HI.o.world)).mono ?_
       rintro e W' ⟨u6,w9,rfl,wu,hb⟩;exact hK.o _ _ ⟨HI.o.pc Hi.o hb ⟨u6,w9,rfl,wu⟩,trivial⟩
     | 10,_,Hi =>
       obtain⟨v',x4,dz,dX,e,u02⟩:=HI.o.at (i:=4) Hi.o (by kernel_rfl) (by decide);obtain rfl:=e;have x4:a.tmps[9]? = some (.agg #[.bool (ah z),.slice dz (aa z) dX]):=x4;have u0o:=hid u02;clear u02;obtain⟨v',x9,u6,w9,e,wu⟩:=HI.o.at (i:=9) Hi.o (by kernel_rfl) (by decide);obtain rfl:=e;have x9:a.tmps[14]? = some (.slice u6 (ag en) w9):=x9;have u01:=hid wu;clear wu;refine aA rfl fun K' hK=>?_;go_simp;with_reducible refine(C3.o _ _ _ _ _ u0o.o u01.o).mono ?_
       rintro e W' ⟨sw,rM,rV,p8,rfl,u03,u04,hb⟩;exact hK.o _ _ ⟨HI.o.pc Hi.o hb ⟨sw,rM,rV,p8,rfl,u03,u04⟩,trivial⟩
     | n+11,h,_=>exact absurd h (by omega)
   · intro mi a W HI hD HA
     obtain⟨v',x4,dz,dX,e,u02⟩:=HI.o.slots 4 (by decide) (HA.o 4 (by decide));obtain rfl:=e;have u0o:=hid u02;clear u02;obtain⟨v',x9,u6,w9,e,wu⟩:=HI.o.slots 9 (by decide) (HA.o 9 (by decide));obtain rfl:=e;have u01:=hid wu;clear wu;obtain⟨v',x10,sw,rM,rV,p8,e,u03,u04⟩:=HI.o.slots 10 (by decide) (HA.o 10 (by decide));obtain rfl:=e;have u05:=hid u03;clear u03;have u0p:=hid u04;clear u04;have x10:a.tmps[15]? = some (.agg #[.bool (ah n),.slice sw (aa n) rM,.slice rV (ag dn) p8]):=x10;have wo:=hid HI.o.world;obtain ⟨l5,K3⟩:=aD (wm.o.trans (wo.o.mono wm.o.size)) (K3.o.below wo.o);have RZ:=u0o;have RE:=u01;have RQ:=u05;have TQ:=u0p;have y4:=HI.o.rst 4 rfl;obtain ⟨u0d,u0e,u0f⟩:=aC K3.o rfl rfl rfl;obtain ⟨u0C,u0D,u0E⟩:=bB K3.o;refine aZ (t:=0) ?_;refine aA rfl fun K' hK=>?_;go_simp;refine hK.o _ _ ?_;clear hK;refine aV ?_;have s0:∀ {v':Value} {n':Nat},RN W v' n'→RN (storeAll W (w.heap.size+1+1) 0 [.bool (ah n),.slice sw (aa n) rM,.slice rV (ag dn) p8]) v' n':=fun h'=>bf _ h' K3.o (by simp[bJ]) (by simp[aW]);exact⟨rfl,dz,dX,u6,w9,sw,rM,rV,p8,(HI.o.finx ⟨HI.o.sx HA.o 0,HI.o.sx HA.o 1,HI.o.sx HA.o 2,HI.o.sx HA.o 3,x4,HI.o.sx HA.o 5,HI.o.sx HA.o 6,HI.o.sx HA.o 7,HI.o.sx HA.o 8,x9,x10,trivial⟩ rfl),(aj (l:=[.bool (ah n),.slice sw (aa n) rM,.slice rV (ag dn) p8]) (i:=0) (by omega) l5.o),(bX (l:=[.bool (ah n),.slice sw (aa n) rM,.slice rV (ag dn) p8]) (i:=0) K3.o),(s0 RQ.o),(s0 TQ.o)⟩
 rintro a' W1 ⟨dz,dX,u6,w9,sw,rM,rV,p8,rfl,z0,z1,z2,z3⟩;obtain ⟨sj,K3,RQ,TQ⟩:=aM z0 z1 z2 z3;clear z0 z1 z2 z3;simp only[putL,List.setIfInBounds_toArray,List.set_cons_zero,List.set_cons_succ];go_wp2;obtain ⟨u0d,u0e,u0f⟩:=aC K3.o rfl rfl rfl;exact bodyPost_ret (v:=.agg #[.bool (ah n),.slice sw (aa n) rM,.slice rV (ag dn) p8]) (by simp[results,results30,go_sem,u0d,u0e,u0f]) rfl ⟨_,_,_,_,rfl,RQ.o,TQ.o,sj.o⟩
open Go.Lib (hid)
theorem zG (n1 n2 x y z n k:Int)(en1 en2 en dn ua ub:Nat)(hk:k≠0)(p1:Option Addr)(c1:Nat)(s1:Option Addr)(d1:Nat)(p2:Option Addr)(c2:Nat)(s2:Option Addr)(d2:Nat)(w:World)(h0:∀ s1 d1 s2 d2 W,RN W (.slice s1 (ag en1) d1) en1→RN W (.slice s2 (ag en2) d2) en2→CR 73 #[.slice s1 (ag en1) d1,.slice s2 (ag en2) d2] W (.int .i64 k))(h1:∀ p1 c1 s2 d2 W,RN W (.slice p1 (aa n1) c1) n1.natAbs→RN W (.slice s2 (ag en2) d2) en2→CN 79 #[.slice p1 (aa n1) c1,.slice s2 (ag en2) d2] W ua)(h2:∀ s2 d2 W,RN W (.slice s2 (ag ua) d2) ua→CZ 78 #[.bool (ah n1),.slice s2 (ag ua) d2] W x)(h3:∀ p1 c1 s2 d2 W,RN W (.slice p1 (aa n2) c1) n2.natAbs→RN W (.slice s2 (ag en1) d2) en1→CN 79 #[.slice p1 (aa n2) c1,.slice s2 (ag en1) d2] W ub)(h4:∀ s2 d2 W,RN W (.slice s2 (ag ub) d2) ub→CZ 78 #[.bool (ah n2),.slice s2 (ag ub) d2] W y)(h5:∀ p1 c1 p2 c2 W,RN W (.slice p1 (aa x) c1) x.natAbs→RN W (.slice p2 (aa y) c2) y.natAbs→CZ 77 #[.agg #[.bool (ah x),.slice p1 (aa x) c1],.agg #[.bool (ah y),.slice p2 (aa y) c2]] W z)(h6:∀ s1 d1 s2 d2 W,RN W (.slice s1 (ag en1) d1) en1→RN W (.slice s2 (ag en2) d2) en2→CN 79 #[.slice s1 (ag en1) d1,.slice s2 (ag en2) d2] W en)(h7:∀ p1 c1 s2 d2 W,RN W (.slice p1 (aa z) c1) z.natAbs→RN W (.slice s2 (ag en) d2) en→CF 76 #[.agg #[.bool (ah z),.slice p1 (aa z) c1],.slice s2 (ag en) d2] W n dn)(r1:RN w (.slice p1 (aa n1) c1) n1.natAbs)(t1:RN w (.slice s1 (ag en1) d1) en1)(r2:RN w (.slice p2 (aa n2) c2) n2.natAbs)(t2:RN w (.slice s2 (ag en2) d2) en2) :
 CF 29 #[.agg #[.bool (ah n1),.slice p1 (aa n1) c1,.slice s1 (ag en1) d1],.agg #[.bool (ah n2),.slice p2 (aa n2) c2,.slice s2 (ag en2) d2]] w n dn:=by
 obtain ⟨C0,C1,C2,C3,C4,C5,C6,C7,R1⟩:=bZ h0 h1 h2 h3 h4 h5 h6 h7 r1;obtain ⟨T1,R2,T2⟩:=au t1 r2 t2;have k0:(k==0)=false:=by rw[beq_eq_false_iff_ne];exact hk
 have k1:¬ k=0:=hk;clear hk h0 h1 h2 h3 h4 h5 h6 h7 r1 t1 r2 t2;go_enter func29,ntmps29
 go_upto_region 1 with fail
 refine ak w [(#[.bool (ah n1),.slice p1 (aa n1) c1,.slice s1 (ag en1) d1],50),(#[.bool (ah n2),.slice p2 (aa n2) c2,.slice s2 (ag en2) d2],50),(#[.bool false,.slice none 0 0,.slice none 0 0],50)] rfl ?_;rintro W0 ⟨k1,k2,k3,hb⟩;have wm:=hid (show Below w.heap.size w W0 from hb);obtain ⟨R1,T1,R2,T2⟩:=bR wm.o R1 T1 R2 T2;obtain ⟨K1,K2,K3⟩:=au k1 k2 k3;clear k1 k2 k3 hb;have dx:=K1.o.cell (i:=2) rfl;have kM:=K2.o.cell (i:=2) rfl;go_wp2_with fail
 with_reducible refine(C0.o _ _ _ _ _ T1.o T2.o).mono ?_
 rintro e W1 ⟨rfl,hb⟩;clear dx kM;obtain ⟨K1,K2,K3,R1,T1,R2,T2⟩:=mY hb K1 K2 K3 R1 T1 R2 T2;have sj:=hbt wm hb;clear hb;go_wp2_with fail
 have L1:=K1.o.lt;have L2:=K2.o.lt;have L3:=K3.o.lt;have L4:=sj.o.size;refine az (fun a0 a' V=>∃ ed d9 u6 w9 oV,a'=⟨putL [(21,.pointer (some ⟨w.heap.size,0,none⟩)),(22,.pointer (some ⟨w.heap.size,0,none⟩)),(23,.bool (ah n1)),(24,.pointer (some ⟨w.heap.size,0,none⟩)),(25,.pointer (some ⟨w.heap.size,1,none⟩)),(26,.slice p1 (aa n1) c1),(27,.pointer (some ⟨w.heap.size+1,2,none⟩)),(28,.slice s2 (ag en2) d2),(29,.slice ed (ag ua) d9),(30,.agg #[.bool (ah x),.slice u6 (aa x) w9]),(5,.pointer (some ⟨oV,0,none⟩))] a0.tmps,a0.defers⟩∧Below w.heap.size w V∧SBk V (w.heap.size) #[.bool (ah n1),.slice p1 (aa n1) c1,.slice s1 (ag en1) d1] 50∧SBk V (w.heap.size+1) #[.bool (ah n2),.slice p2 (aa n2) c2,.slice s2 (ag en2) d2] 50∧SBk V (w.heap.size+1+1) #[.bool false,.slice none 0 0,.slice none 0 0] 50∧SBk V (oV) #[.bool (ah x),.slice u6 (aa x) w9] 48∧RN V (.slice p1 (aa n1) c1) n1.natAbs∧RN V (.slice s1 (ag en1) d1) en1∧RN V (.slice p2 (aa n2) c2) n2.natAbs∧RN V (.slice s2 (ag en2) d2) en2∧RN V (.slice ed (ag ua) d9) ua∧RN V (.slice u6 (aa x) w9) x.natAbs∧W1.heap.size≤oV) ?_ ?_
 · refine aL 11 1 [21,22,23,24,25,26,27,28,29,30,5] [Rel.val (.pointer (some ⟨w.heap.size,0,none⟩)),Rel.val (.pointer (some ⟨w.heap.size,0,none⟩)),Rel.val (.bool (ah n1)),Rel.val (.pointer (some ⟨w.heap.size,0,none⟩)),Rel.val (.pointer (some ⟨w.heap.size,1,none⟩)),Rel.val (.slice p1 (aa n1) c1),Rel.val (.pointer (some ⟨w.heap.size+1,2,none⟩)),Rel.val (.slice s2 (ag en2) d2),Rel.nat ua,Rel.int x,Rel.ptr W1.heap.size (.cells #[.bool false,.slice none 0 0] 48)] ?_ ?_
   · intro mi a W i HI hD Hr him
     obtain⟨y2,y3⟩:=HI.o.s2 2 3;obtain ⟨bv,bM⟩:=ay (K1.o.below HI.o.world) rfl rfl;have kM:=(K2.o.below HI.o.world).cell (i:=2) rfl;obtain⟨X0,X1,X3,X4,X6,X5⟩:=HI.o.g6 0 21 1 22 3 24 4 25 6 27 5 26;obtain⟨X7,X2⟩:=HI.o.g2 7 28 2 23
     match i,him,Hr with
     | 0,_,Hi|1,_,Hi|2,_,Hi|3,_,Hi|4,_,Hi|5,_,Hi|6,_,Hi|7,_,Hi =>
       try have x0:=X0.t Hi.o
       try have x1:=X1.t Hi.o
       try have x3:=X3.t Hi.o
       try have x4:=X4.t Hi.o
       try have x6:=X6.t Hi.o
       refine aA rfl fun K' hK=>?_;go_simp;exact hK.o _ _ (HI.o.pw Hi.o)
     | 8,_,Hi =>
       have x5:=X5.q Hi.o;have x7:=X7.q Hi.o;refine aA rfl fun K' hK=>?_;go_simp;with_reducible refine(C1.o _ _ _ _ _ (R1.o.below HI.o.world) (T2.o.below HI.o.world)).mono ?_
       rintro e W' ⟨ed,d9,rfl,u06,hb⟩;exact hK.o _ _ ⟨HI.o.pc Hi.o hb ⟨ed,d9,rfl,u06⟩,trivial⟩
     | 9,_,Hi =>
       have x2:=X2.q Hi.o;obtain⟨v',x8,ed,d9,e,u06⟩:=HI.o.at (i:=8) Hi.o (by kernel_rfl) (by decide);obtain rfl:=e;have x8:a.tmps[29]? = some (.slice ed (ag ua) d9):=x8;have u0q:=hid u06;clear u06;refine aA rfl fun K' hK=>?_;go_simp;with_reducible refine(C2.o _ _ _ u0q.o).mono ?_
       rintro e W' ⟨u6,w9,rfl,wu,hb⟩;exact hK.o _ _ ⟨HI.o.pc Hi.o hb ⟨u6,w9,rfl,wu⟩,trivial⟩
     | 10,_,Hi =>
       refine aA rfl fun K' hK=>?_;go_simp;exact hK.o _ _ ⟨HI.o.pc Hi.o ((Below.refl W.heap.size W).alloc (Nat.le_refl _) (.cells #[.bool false,.slice none 0 0] 48)) ⟨W.heap.size,rfl,HI.o.world.size,SBk.new _ _ _⟩,trivial⟩
     | n+11,h,_=>exact absurd h (by omega)
   · intro mi a W HI hD HA
     obtain⟨v',x8,ed,d9,e,u06⟩:=HI.o.slots 8 (by decide) (HA.o 8 (by decide));obtain rfl:=e;have u0q:=hid u06;clear u06;obtain⟨v',x9,u6,w9,e,wu⟩:=HI.o.slots 9 (by decide) (HA.o 9 (by decide));obtain rfl:=e;have u01:=hid wu;clear wu;have x9:a.tmps[30]? = some (.agg #[.bool (ah x),.slice u6 (aa x) w9]):=x9;obtain⟨v',x10,oV,e,u03,u04⟩:=HI.o.slots 10 (by decide) (HA.o 10 (by decide));obtain rfl:=e;have u05:=hid u03;clear u03;have u0p:=hid u04;clear u04;have x10:a.tmps[5]? = some (.pointer (some ⟨oV,0,none⟩)):=x10;have wo:=hid HI.o.world;obtain ⟨K1,K2,K3,R1,T1,R2,T2⟩:=mY wo.o K1 K2 K3 R1 T1 R2 T2;have l5:=Lib.hid (sj.o.trans (wo.o.mono sj.o.size));have RA:=u0q;have RX:=u01;have K4:Hid (SBk W oV #[.bool false,.slice none 0 0] 48):=u0p;obtain ⟨u0F,u0G⟩:=ay K4.o rfl rfl;obtain ⟨u0R,u0S⟩:=aR K4.o;refine aZ (t:=0) ?_;refine aA rfl fun K' hK=>?_;go_simp;refine hK.o _ _ ?_;clear hK;refine aV ?_;have s0:∀ {v':Value} {n':Nat},RN W v' n'→RN (storeAll W (oV) 0 [.bool (ah x),.slice u6 (aa x) w9]) v' n':=fun h'=>bf _ h' K4.o (by simp[bJ]) (by simp[aW]);have o0:∀ {g':Nat} {cs':Array Value} {T':TypeId},g'≠oV→SBk W g' cs' T'→SBk (storeAll W (oV) 0 [.bool (ah x),.slice u6 (aa x) w9]) g' cs' T':=fun hg' h'=>cK hg' _ 0 h';exact⟨rfl,ed,d9,u6,w9,oV,(HI.o.finx ⟨HI.o.sx HA.o 0,HI.o.sx HA.o 1,HI.o.sx HA.o 2,HI.o.sx HA.o 3,HI.o.sx HA.o 4,HI.o.sx HA.o 5,HI.o.sx HA.o 6,HI.o.sx HA.o 7,x8,x9,x10,trivial⟩ rfl),(aj (l:=[.bool (ah x),.slice u6 (aa x) w9]) (i:=0) (by have:=u05.o;omega) l5.o),(o0 (by have:=u05.o;omega) K1.o),(o0 (by have:=u05.o;omega) K2.o),(o0 (by have:=u05.o;omega) K3.o),(bX (l:=[.bool (ah x),.slice u6 (aa x) w9]) (i:=0) K4.o),(s0 R1.o),(s0 T1.o),(s0 R2.o),(s0 T2.o),(s0 RA.o),(s0 RX.o),u05.o⟩
 rintro a' W2 ⟨ed,d9,u6,w9,oV,rfl,z0,z1,z2,z3,z4,z5,z6,z7,z8,z9,z10,z11⟩;obtain ⟨HB2,K1,K2,K3,K4,R1,T1,R2,T2⟩:=bZ z0 z1 z2 z3 z4 z5 z6 z7 z8;have RA:=hid z9;have RX:=hid z10;have R10xW2:=z11;clear z0 z1 z2 z3 z4 z5 z6 z7 z8 z9 z10 z11;simp only[putL,List.setIfInBounds_toArray,List.set_cons_zero,List.set_cons_succ];go_wp2_with fail
 have L6:=K1.o.lt;have L7:=K2.o.lt;have L8:=K3.o.lt;have L9:=K4.o.lt;have L10:=HB2.o.size;refine az (fun a0 a' V=>∃ dY cO ww si lv,a'=⟨putL [(31,.pointer (some ⟨w.heap.size+1,0,none⟩)),(32,.pointer (some ⟨w.heap.size+1,0,none⟩)),(33,.bool (ah n2)),(34,.pointer (some ⟨w.heap.size+1,0,none⟩)),(35,.pointer (some ⟨w.heap.size+1,1,none⟩)),(36,.slice p2 (aa n2) c2),(37,.pointer (some ⟨w.heap.size,2,none⟩)),(38,.slice s1 (ag en1) d1),(39,.slice dY (ag ub) cO),(40,.agg #[.bool (ah y),.slice ww (aa y) si]),(6,.pointer (some ⟨lv,0,none⟩))] a0.tmps,a0.defers⟩∧Below w.heap.size w V∧SBk V (w.heap.size) #[.bool (ah n1),.slice p1 (aa n1) c1,.slice s1 (ag en1) d1] 50∧SBk V (w.heap.size+1) #[.bool (ah n2),.slice p2 (aa n2) c2,.slice s2 (ag en2) d2] 50∧SBk V (w.heap.size+1+1) #[.bool false,.slice none 0 0,.slice none 0 0] 50∧SBk V (oV) #[.bool (ah x),.slice u6 (aa x) w9] 48∧SBk V (lv) #[.bool (ah y),.slice ww (aa y) si] 48∧RN V (.slice s1 (ag en1) d1) en1∧RN V (.slice s2 (ag en2) d2) en2∧RN V (.slice u6 (aa x) w9) x.natAbs∧RN V (.slice ww (aa y) si) y.natAbs∧W2.heap.size≤lv) ?_ ?_
 · refine aL 11 1 [31,32,33,34,35,36,37,38,39,40,6] [Rel.val (.pointer (some ⟨w.heap.size+1,0,none⟩)),Rel.val (.pointer (some ⟨w.heap.size+1,0,none⟩)),Rel.val (.bool (ah n2)),Rel.val (.pointer (some ⟨w.heap.size+1,0,none⟩)),Rel.val (.pointer (some ⟨w.heap.size+1,1,none⟩)),Rel.val (.slice p2 (aa n2) c2),Rel.val (.pointer (some ⟨w.heap.size,2,none⟩)),Rel.val (.slice s1 (ag en1) d1),Rel.nat ub,Rel.int y,Rel.ptr W2.heap.size (.cells #[.bool false,.slice none 0 0] 48)] ?_ ?_
   · intro mi a W i HI hD Hr him
     obtain⟨y3,y2⟩:=HI.o.s2 3 2;obtain ⟨af,u00⟩:=ay (K2.o.below HI.o.world) rfl rfl;have dx:=(K1.o.below HI.o.world).cell (i:=2) rfl;obtain⟨X0,X1,X3,X4,X6,X5⟩:=HI.o.g6 0 31 1 32 3 34 4 35 6 37 5 36;obtain⟨X7,X2⟩:=HI.o.g2 7 38 2 33
     match i,him,Hr with
     | 0,_,Hi|1,_,Hi|2,_,Hi|3,_,Hi|4,_,Hi|5,_,Hi|6,_,Hi|7,_,Hi =>
       try have x0:=X0.t Hi.o
       try have x1:=X1.t Hi.o
       try have x3:=X3.t Hi.o
       try have x4:=X4.t Hi.o
       try have x6:=X6.t Hi.o
       refine aA rfl fun K' hK=>?_;go_simp;exact hK.o _ _ (HI.o.pw Hi.o)
     | 8,_,Hi =>
       have x5:=X5.q Hi.o;have x7:=X7.q Hi.o;refine aA rfl fun K' hK=>?_;go_simp;with_reducible refine(C3.o _ _ _ _ _ (R2.o.below HI.o.world) (T1.o.below HI.o.world)).mono ?_
       rintro e W' ⟨dY,cO,rfl,u07,hb⟩;exact hK.o _ _ ⟨HI.o.pc Hi.o hb ⟨dY,cO,rfl,u07⟩,trivial⟩
     | 9,_,Hi =>
       have x2:=X2.q Hi.o;obtain⟨v',x8,dY,cO,e,u07⟩:=HI.o.at (i:=8) Hi.o (by kernel_rfl) (by decide);obtain rfl:=e;have x8:a.tmps[39]? = some (.slice dY (ag ub) cO):=x8;have u0r:=hid u07;clear u07;refine aA rfl fun K' hK=>?_;go_simp;with_reducible refine(C4.o _ _ _ u0r.o).mono ?_
       rintro e W' ⟨ww,si,rfl,u0k,hb⟩;exact hK.o _ _ ⟨HI.o.pc Hi.o hb ⟨ww,si,rfl,u0k⟩,trivial⟩
     | 10,_,Hi =>
       refine aA rfl fun K' hK=>?_;go_simp;exact hK.o _ _ ⟨HI.o.pc Hi.o ((Below.refl W.heap.size W).alloc (Nat.le_refl _) (.cells #[.bool false,.slice none 0 0] 48)) ⟨W.heap.size,rfl,HI.o.world.size,SBk.new _ _ _⟩,trivial⟩
     | n+11,h,_=>exact absurd h (by omega)
   · intro mi a W HI hD HA
     obtain⟨v',x8,dY,cO,e,u07⟩:=HI.o.slots 8 (by decide) (HA.o 8 (by decide));obtain rfl:=e;have u0r:=hid u07;clear u07;obtain⟨v',x9,ww,si,e,u0k⟩:=HI.o.slots 9 (by decide) (HA.o 9 (by decide));obtain rfl:=e;have u0H:=hid u0k;clear u0k;have x9:a.tmps[40]? = some (.agg #[.bool (ah y),.slice ww (aa y) si]):=x9;obtain⟨v',x10,lv,e,u0w,u0x⟩:=HI.o.slots 10 (by decide) (HA.o 10 (by decide));obtain rfl:=e;have u0a:=hid u0w;clear u0w;have u0I:=hid u0x;clear u0x;have x10:a.tmps[6]? = some (.pointer (some ⟨lv,0,none⟩)):=x10;have wo:=hid HI.o.world;obtain ⟨K1,K2,K3,K4,T1,T2,RX⟩:=mY wo.o K1 K2 K3 K4 T1 T2 RX;have l5:=Lib.hid (HB2.o.trans (wo.o.mono HB2.o.size));have RB:=u0r;have RY:=u0H;have K5:Hid (SBk W lv #[.bool false,.slice none 0 0] 48):=u0I;obtain ⟨u0J,u0K⟩:=ay K5.o rfl rfl;obtain ⟨u0T,u0U⟩:=aR K5.o;refine aZ (t:=0) ?_;refine aA rfl fun K' hK=>?_;go_simp;refine hK.o _ _ ?_;clear hK;refine aV ?_;have s0:∀ {v':Value} {n':Nat},RN W v' n'→RN (storeAll W (lv) 0 [.bool (ah y),.slice ww (aa y) si]) v' n':=fun h'=>bf _ h' K5.o (by simp[bJ]) (by simp[aW]);have o0:∀ {g':Nat} {cs':Array Value} {T':TypeId},g'≠lv→SBk W g' cs' T'→SBk (storeAll W (lv) 0 [.bool (ah y),.slice ww (aa y) si]) g' cs' T':=fun hg' h'=>cK hg' _ 0 h';exact⟨rfl,dY,cO,ww,si,lv,(HI.o.finx ⟨HI.o.sx HA.o 0,HI.o.sx HA.o 1,HI.o.sx HA.o 2,HI.o.sx HA.o 3,HI.o.sx HA.o 4,HI.o.sx HA.o 5,HI.o.sx HA.o 6,HI.o.sx HA.o 7,x8,x9,x10,trivial⟩ rfl),(aj (l:=[.bool (ah y),.slice ww (aa y) si]) (i:=0) (by have:=u0a.o;omega) l5.o),(o0 (by have:=u0a.o;omega) K1.o),(o0 (by have:=u0a.o;omega) K2.o),(o0 (by have:=u0a.o;omega) K3.o),(o0 (by have:=u0a.o;omega) K4.o),(bX (l:=[.bool (ah y),.slice ww (aa y) si]) (i:=0) K5.o),(s0 T1.o),(s0 T2.o),(s0 RX.o),(s0 RY.o),u0a.o⟩
 rintro a' W3 ⟨dY,cO,ww,si,lv,rfl,z0,z1,z2,z3,z4,z5,z6,z7,z8,z9,z10⟩;obtain ⟨HB3,K1,K2,K3,K4,K5,T1,T2,RX⟩:=bZ z0 z1 z2 z3 z4 z5 z6 z7 z8;have RY:=hid z9;have R10xW3:=z10;clear z0 z1 z2 z3 z4 z5 z6 z7 z8 z9 z10;simp only[putL,List.setIfInBounds_toArray,List.set_cons_zero,List.set_cons_succ];go_wp2_with fail
 refine az (fun a0 a' V=>∃ bg bn bq bu pq pu ol oM,a'=⟨putL [(41,.agg #[.bool (ah x),.slice u6 (aa x) w9]),(42,.agg #[.bool (ah y),.slice ww (aa y) si]),(43,.agg #[.bool (ah z),.slice bg (aa z) bn]),(44,.pointer (some ⟨w.heap.size,2,none⟩)),(45,.slice s1 (ag en1) d1),(46,.pointer (some ⟨w.heap.size+1,2,none⟩)),(47,.slice s2 (ag en2) d2),(48,.slice bq (ag en) bu),(49,.agg #[.bool (ah n),.slice pq (aa n) pu,.slice ol (ag dn) oM])] a0.tmps,a0.defers⟩∧Below w.heap.size w V∧SBk V (w.heap.size+1+1) #[.bool (ah n),.slice pq (aa n) pu,.slice ol (ag dn) oM] 50∧RN V (.slice pq (aa n) pu) (n).natAbs∧RN V (.slice ol (ag dn) oM) (dn)) ?_ ?_
 · refine aL 9 1 [41,42,43,44,45,46,47,48,49] [Rel.val (.agg #[.bool (ah x),.slice u6 (aa x) w9]),Rel.val (.agg #[.bool (ah y),.slice ww (aa y) si]),Rel.int z,Rel.val (.pointer (some ⟨w.heap.size,2,none⟩)),Rel.val (.slice s1 (ag en1) d1),Rel.val (.pointer (some ⟨w.heap.size+1,2,none⟩)),Rel.val (.slice s2 (ag en2) d2),Rel.nat en,⟨fun v W=>∃ p c s d,v=.agg #[.bool (ah n),.slice p (aa n) c,.slice s (ag dn) d]∧RN W (.slice p (aa n) c) (n).natAbs∧RN W (.slice s (ag dn) d) (dn),fun _ _ _ ⟨p,c,s,d,e,h0,h1⟩ hb=>⟨p,c,s,d,e,h0.below hb,h1.below hb⟩⟩] ?_ ?_
   · intro mi a W i HI hD Hr him
     obtain⟨y5,y6,y2⟩:=HI.o.s3 5 6 2;have y3:=HI.o.rst 3 rfl;obtain ⟨u0F,u0G⟩:=ay (K4.o.below HI.o.world) rfl rfl;obtain ⟨u0J,u0K⟩:=ay (K5.o.below HI.o.world) rfl rfl;have dx:=(K1.o.below HI.o.world).cell (i:=2) rfl;have kM:=(K2.o.below HI.o.world).cell (i:=2) rfl;obtain⟨X0,X1,X3,X5,X4,X6⟩:=HI.o.g6 0 41 1 42 3 44 5 46 4 45 6 47
     match i,him,Hr with
     | 0,_,Hi|1,_,Hi =>
       refine aA rfl fun K' hK=>?_;go_simp;exact hK.o _ _ (HI.o.pw Hi.o)
     | 2,_,Hi =>
       have x0:=X0.q Hi.o;have x1:=X1.q Hi.o;refine aA rfl fun K' hK=>?_;go_simp;with_reducible refine(C5.o _ _ _ _ _ (RX.o.below HI.o.world) (RY.o.below HI.o.world)).mono ?_
       rintro e W' ⟨bg,bn,rfl,u08,hb⟩;exact hK.o _ _ ⟨HI.o.pc Hi.o hb ⟨bg,bn,rfl,u08⟩,trivial⟩
     | 3,_,Hi|4,_,Hi|5,_,Hi|6,_,Hi =>
       try have x3:=X3.t Hi.o
       try have x5:=X5.t Hi.o
       refine aA rfl fun K' hK=>?_;go_simp;exact hK.o _ _ (HI.o.pw Hi.o)
     | 7,_,Hi =>
       have x4:=X4.q Hi.o;have x6:=X6.q Hi.o;refine aA rfl fun K' hK=>?_;go_simp;with_reducible refine(C6.o _ _ _ _ _ (T1.o.below HI.o.world) (T2.o.below HI.o.world)).mono ?_
       rintro e W' ⟨bq,bu,rfl,u09,hb⟩;exact hK.o _ _ ⟨HI.o.pc Hi.o hb ⟨bq,bu,rfl,u09⟩,trivial⟩
     | 8,_,Hi =>
       obtain⟨v',x2,bg,bn,e,u08⟩:=HI.o.at (i:=2) Hi.o (by kernel_rfl) (by decide);obtain rfl:=e;have x2:a.tmps[43]? = some (.agg #[.bool (ah z),.slice bg (aa z) bn]):=x2;have u0s:=hid u08;clear u08;obtain⟨v',x7,bq,bu,e,u09⟩:=HI.o.at (i:=7) Hi.o (by kernel_rfl) (by decide);obtain rfl:=e;have x7:a.tmps[48]? = some (.slice bq (ag en) bu):=x7;have u0t:=hid u09;clear u09;refine aA rfl fun K' hK=>?_;go_simp;with_reducible refine(C7.o _ _ _ _ _ u0s.o u0t.o).mono ?_
       rintro e W' ⟨pq,pu,ol,oM,rfl,u0l,u0m,hb⟩;exact hK.o _ _ ⟨HI.o.pc Hi.o hb ⟨pq,pu,ol,oM,rfl,u0l,u0m⟩,trivial⟩
     | n+9,h,_=>exact absurd h (by omega)
   · intro mi a W HI hD HA
     obtain⟨v',x2,bg,bn,e,u08⟩:=HI.o.slots 2 (by decide) (HA.o 2 (by decide));obtain rfl:=e;have u0s:=hid u08;clear u08;obtain⟨v',x7,bq,bu,e,u09⟩:=HI.o.slots 7 (by decide) (HA.o 7 (by decide));obtain rfl:=e;have u0t:=hid u09;clear u09;obtain⟨v',x8,pq,pu,ol,oM,e,u0l,u0m⟩:=HI.o.slots 8 (by decide) (HA.o 8 (by decide));obtain rfl:=e;have u0L:=hid u0l;clear u0l;have u0M:=hid u0m;clear u0m;have x8:a.tmps[49]? = some (.agg #[.bool (ah n),.slice pq (aa n) pu,.slice ol (ag dn) oM]):=x8;have wo:=hid HI.o.world;obtain ⟨l5,K3⟩:=aD (HB3.o.trans (wo.o.mono HB3.o.size)) (K3.o.below wo.o);have RZ:=u0s;have RE:=u0t;have RQ:=u0L;have TQ:=u0M;have y4:=HI.o.rst 4 rfl;obtain ⟨u0d,u0e,u0f⟩:=aC K3.o rfl rfl rfl;obtain ⟨u0C,u0D,u0E⟩:=bB K3.o;refine aZ (t:=0) ?_;refine aA rfl fun K' hK=>?_;go_simp;refine hK.o _ _ ?_;clear hK;refine aV ?_;have s0:∀ {v':Value} {n':Nat},RN W v' n'→RN (storeAll W (w.heap.size+1+1) 0 [.bool (ah n),.slice pq (aa n) pu,.slice ol (ag dn) oM]) v' n':=fun h'=>bf _ h' K3.o (by simp[bJ]) (by simp[aW]);exact⟨rfl,bg,bn,bq,bu,pq,pu,ol,oM,(HI.o.finx ⟨HI.o.sx HA.o 0,HI.o.sx HA.o 1,x2,HI.o.sx HA.o 3,HI.o.sx HA.o 4,HI.o.sx HA.o 5,HI.o.sx HA.o 6,x7,x8,trivial⟩ rfl),(aj (l:=[.bool (ah n),.slice pq (aa n) pu,.slice ol (ag dn) oM]) (i:=0) (by omega) l5.o),(bX (l:=[.bool (ah n),.slice pq (aa n) pu,.slice ol (ag dn) oM]) (i:=0) K3.o),(s0 RQ.o),(s0 TQ.o)⟩
 rintro a' W4 ⟨bg,bn,bq,bu,pq,pu,ol,oM,rfl,z0,z1,z2,z3⟩;obtain ⟨HB4,K3,RQ,TQ⟩:=aM z0 z1 z2 z3;clear z0 z1 z2 z3;simp only[putL,List.setIfInBounds_toArray,List.set_cons_zero,List.set_cons_succ];go_wp2;obtain ⟨u0d,u0e,u0f⟩:=aC K3.o rfl rfl rfl;exact bodyPost_ret (v:=.agg #[.bool (ah n),.slice pq (aa n) pu,.slice ol (ag dn) oM]) (by simp[results,results29,go_sem,u0d,u0e,u0f]) rfl ⟨_,_,_,_,rfl,RQ.o,TQ.o,HB4.o⟩
