/- texts -/
import Derived.Test.YtikihamjpenboaaGreatDoorMz31q
import Derived.Test.YtikihamjpenboaaGreatDoorSjb
import Derived.Test.YtikihamjpenboaaGreatDoorSl
set_option maxRecDepth 100000
set_option maxHeartbeats 20000000
open Go.Lib (hid)
namespace Go.Proofs.YtikihamjpenboaaGreatDoor
open Go.RowKit Go.Gb
theorem z2Q (k n:Int)(dn:Nat)  (w:World)(h1:∀ W,CZ 91 #[.int .i64 k] W n)(h2:∀ W,CN 57 #[.int .u32 1] W dn)  :
 CF 54 #[.int .i64 k] w n dn:=by
 have C1:=hid h1;have C2:=hid h2;clear h1 h2;go_enter Tryz.func54,Tryz.ntmps54
 go_upto_region 1 with fail
 refine az w [(#[.bool false,.slice none 0 0,.slice none 0 0],51)] rfl ?_;rintro W0 ⟨k1,hb⟩;have ww:=hid (show Below w.heap.size w W0 from hb);have K1:=hid k1;clear k1 hb;go_wp2_with fail
 with_reducible refine(C1.o _).mono ?_
 rintro e W1 ⟨mi,lg,rfl,eH,hb⟩;have K1:=hid (K1.o.below hb);have p9:=hbt ww hb;have RN1:=hid eH;clear hb eH;go_wp2_with fail
 with_reducible refine(C2.o _).mono ?_
 rintro e W2 ⟨lv,kz,rfl,eX,hb⟩;obtain ⟨K1,RN1⟩:=aH hb K1 RN1;have dP:=hbt p9 hb;have RD1:=hid eX;clear hb eX;obtain ⟨ol,oM,kV⟩:=aP K1.o rfl rfl rfl;obtain ⟨cu,cO,bg⟩:=bU K1.o;go_wp2;exact bodyPost_ret (v:=.agg #[.bool (ah n),.slice mi (aa n) lg,.slice lv (ag dn) kz]) (by simp[results,Tryz.results54,go_sem,ol,oM,kV]) rfl ⟨_,_,_,_,rfl,(aS [.bool (ah n),.slice mi (aa n) lg,.slice lv (ag dn) kz] RN1.o K1.o (by simp[bF]) (by simp[aY])),(aS [.bool (ah n),.slice mi (aa n) lg,.slice lv (ag dn) kz] RD1.o K1.o (by simp[bF]) (by simp[aY])),(ay (l:=[.bool (ah n),.slice mi (aa n) lg,.slice lv (ag dn) kz]) (i:=0) (by omega) dP.o)⟩
theorem z2P (n m:Int)(en:Nat)(p1:Option Addr)(c1:Nat)(s1:Option Addr)(d1:Nat)(w:World)(h1:∀ s2 d2 W,RN W (.slice s2 (ag en) d2) en→CZ 62 #[.bool (ah n),.slice s2 (ag en) d2] W m)(r1:RN w (.slice p1 (aa n) c1) n.natAbs)(t1:RN w (.slice s1 (ag en) d1) en) :
 Calls Tryz.prog 61 #[.agg #[.bool (ah n),.slice p1 (aa n) c1,.slice s1 (ag en) d1]] w fun e w'=>∃ p c s d,e=.returned (.agg #[.bool (ah m),.slice p (aa m) c,.slice s (ag n.natAbs) d])∧RN w' (.slice p (aa m) c) m.natAbs∧RN w' (.slice s (ag n.natAbs) d) n.natAbs∧Below w.heap.size w w':=by
 obtain ⟨C1,R1,T1⟩:=ak h1 r1 t1;clear h1 r1 t1;go_enter Tryz.func61,Tryz.ntmps61
 go_upto_region 1 with fail
 refine az w [(#[.bool (ah n),.slice p1 (aa n) c1,.slice s1 (ag en) d1],51),(#[.bool false,.slice none 0 0,.slice none 0 0],51)] rfl ?_;rintro W0 ⟨k1,k2,hb⟩;have ww:=hid (show Below w.heap.size w W0 from hb);obtain ⟨R1,T1⟩:=aH ww.o R1 T1;obtain ⟨K1,K2⟩:=aD k1 k2;clear k1 k2 hb;go_wp2_with fail
 refine aF (fun a0 a' V=>∃ r9 rq si sj,a'=⟨putL [(3,.pointer (some ⟨w.heap.size,0,none⟩)),(4,.pointer (some ⟨w.heap.size,0,none⟩)),(5,.bool (ah n)),(6,.pointer (some ⟨w.heap.size,2,none⟩)),(7,.slice s1 (ag en) d1),(8,.agg #[.bool (ah m),.slice r9 (aa m) rq]),(9,.pointer (some ⟨w.heap.size,0,none⟩)),(10,.pointer (some ⟨w.heap.size,1,none⟩)),(11,.slice p1 (aa n) c1),(12,.agg #[.bool (ah m),.slice si (aa m) sj,.slice p1 (aa n) c1])] a0.tmps,a0.defers⟩∧Below w.heap.size w V∧SBk V (w.heap.size+1) #[.bool (ah m),.slice si (aa m) sj,.slice p1 (aa n) c1] 51∧RN V (.slice p1 (aa n) c1) n.natAbs∧RN V (.slice si (aa m) sj) m.natAbs) ?_ ?_
 · refine aU 10 1 [3,4,5,6,7,8,9,10,11,12] [Rel.val (.pointer (some ⟨w.heap.size,0,none⟩)),Rel.val (.pointer (some ⟨w.heap.size,0,none⟩)),Rel.val (.bool (ah n)),Rel.val (.pointer (some ⟨w.heap.size,2,none⟩)),Rel.val (.slice s1 (ag en) d1),Rel.int m,Rel.val (.pointer (some ⟨w.heap.size,0,none⟩)),Rel.val (.pointer (some ⟨w.heap.size,1,none⟩)),Rel.val (.slice p1 (aa n) c1),⟨fun v W=>∃ pa ca,v=.agg #[.bool (ah m),.slice pa (aa m) ca,.slice p1 (aa n) c1]∧RN W (.slice pa (aa m) ca) m.natAbs,fun _ _ _ ⟨pa,ca,e,h0⟩ hb=>⟨pa,ca,e,h0.below hb⟩⟩] ?_ ?_
   · intro gy a W i HI hD Hr him
     have y1:=HI.o.rst 1 rfl;have ol:=(K1.o.below HI.o.world).cell (i:=0) rfl;have kV:=(K1.o.below HI.o.world).cell (i:=2) rfl;have oM:=(K1.o.below HI.o.world).cell (i:=1) rfl;obtain⟨X0,X1,X3,X2,X4,X6⟩:=HI.o.g6 0 3 1 4 3 6 2 5 4 7 6 9;obtain⟨X7,X8⟩:=HI.o.g2 7 10 8 11
     match i,him,Hr with
     | 0,_,Hi|1,_,Hi|2,_,Hi|3,_,Hi|4,_,Hi =>
       try have x0:=X0.t Hi.o
       try have x1:=X1.t Hi.o
       try have x3:=X3.t Hi.o
       refine aA rfl fun K' hK=>?_;go_simp;exact hK.o _ _ (HI.o.pw Hi.o)
     | 5,_,Hi =>
       have x2:=X2.q Hi.o;have x4:=X4.q Hi.o;refine aA rfl fun K' hK=>?_;go_simp;with_reducible refine(C1.o _ _ _ (T1.o.below HI.o.world)).mono ?_
       rintro e W' ⟨r9,rq,rfl,pq,hb⟩;exact hK.o _ _ ⟨HI.o.pc Hi.o hb ⟨r9,rq,rfl,pq⟩,trivial⟩
     | 6,_,Hi|7,_,Hi|8,_,Hi =>
       try have x6:=X6.t Hi.o
       try have x7:=X7.t Hi.o
       refine aA rfl fun K' hK=>?_;go_simp;exact hK.o _ _ (HI.o.pw Hi.o)
     | 9,_,Hi =>
       obtain⟨v',x5,r9,rq,e,pq⟩:=HI.o.at (i:=5) Hi.o (by kernel_rfl) (by decide);obtain rfl:=e;have x5:a.tmps[8]? = some (.agg #[.bool (ah m),.slice r9 (aa m) rq]):=x5;have gF:=hid pq;clear pq;have x8:=X8.q Hi.o;refine aA rfl fun K' hK=>?_;go_simp;exact hK.o _ _ ⟨HI.o.pv Hi.o ⟨r9,rq,rfl,gF.o⟩,trivial⟩
     | n+10,h,_=>exact absurd h (by omega)
   · intro gy a W HI hD HA
     obtain⟨v',x5,r9,rq,e,pq⟩:=HI.o.slots 5 (by decide) (HA.o 5 (by decide));obtain rfl:=e;have gF:=hid pq;clear pq;obtain⟨v',x9,si,sj,e,sw⟩:=HI.o.slots 9 (by decide) (HA.o 9 (by decide));obtain rfl:=e;have oV:=hid sw;clear sw;have x9:a.tmps[12]? = some (.agg #[.bool (ah m),.slice si (aa m) sj,.slice p1 (aa n) c1]):=x9;have mf:=hid HI.o.world;obtain ⟨K2,R1⟩:=aH mf.o K2 R1;have fo:=Lib.hid (ww.o.trans (mf.o.mono ww.o.size));have RM:=gF;have RMb:=oV;have y2:=HI.o.rst 2 rfl;obtain ⟨fq,fQ,ed⟩:=aP K2.o rfl rfl rfl;obtain ⟨bn,bq,bu⟩:=bU K2.o;refine bz (t:=0) ?_;refine aA rfl fun K' hK=>?_;go_simp;refine hK.o _ _ ?_;clear hK;refine bi ?_;have s0:∀ {v':Value} {n':Nat},RN W v' n'→RN (storeAll W (w.heap.size+1) 0 [.bool (ah m),.slice si (aa m) sj,.slice p1 (aa n) c1]) v' n':=fun h'=>aS _ h' K2.o (by simp[bF]) (by simp[aY]);exact⟨rfl,r9,rq,si,sj,(HI.o.finx ⟨HI.o.sx HA.o 0,HI.o.sx HA.o 1,HI.o.sx HA.o 2,HI.o.sx HA.o 3,HI.o.sx HA.o 4,x5,HI.o.sx HA.o 6,HI.o.sx HA.o 7,HI.o.sx HA.o 8,x9,trivial⟩ rfl),(ay (l:=[.bool (ah m),.slice si (aa m) sj,.slice p1 (aa n) c1]) (i:=0) (by omega) fo.o),(cK (l:=[.bool (ah m),.slice si (aa m) sj,.slice p1 (aa n) c1]) (i:=0) K2.o),(s0 R1.o),(s0 RMb.o)⟩
 rintro a' W1 ⟨r9,rq,si,sj,rfl,z0,z1,z2,z3⟩;obtain ⟨p9,K2,R1,RMb⟩:=aM z0 z1 z2 z3;clear z0 z1 z2 z3;simp only[putL,List.setIfInBounds_toArray,List.set_cons_zero,List.set_cons_succ];go_wp2;obtain ⟨fq,fQ,ed⟩:=aP K2.o rfl rfl rfl;exact bodyPost_ret (v:=.agg #[.bool (ah m),.slice si (aa m) sj,.slice p1 (aa n) c1]) (by simp[results,Tryz.results61,go_sem,fq,fQ,ed]) rfl ⟨_,_,_,_,rfl,RMb.o,R1.o,p9.o⟩
theorem z0Q (n s:Int)(en:Nat)(p1:Option Addr)(c1:Nat)(s1:Option Addr)(d1:Nat)(w:World)(h1:∀ p1 c1 W,RN W (.slice p1 (aa n) c1) n.natAbs→CR 59 #[.agg #[.bool (ah n),.slice p1 (aa n) c1]] W (.int .i64 s))(r1:RN w (.slice p1 (aa n) c1) n.natAbs)(t1:RN w (.slice s1 (ag en) d1) en) :
 CR 23 #[.agg #[.bool (ah n),.slice p1 (aa n) c1,.slice s1 (ag en) d1]] w (.int .i64 s):=by
 obtain ⟨C1,R1,T1⟩:=ak h1 r1 t1;clear h1 r1 t1;go_enter Tryz.func23,Tryz.ntmps23
 go_upto_region 1 with fail
 refine az w [(#[.bool (ah n),.slice p1 (aa n) c1,.slice s1 (ag en) d1],51)] rfl ?_;rintro W0 ⟨k1,hb⟩;have ww:=hid (show Below w.heap.size w W0 from hb);have R1:=hid (R1.o.below ww.o);have K1:=hid k1;clear k1 hb;obtain ⟨ol,oM⟩:=au K1.o rfl rfl;go_wp2_with fail
 with_reducible refine(C1.o _ _ _ R1.o).mono ?_
 rintro e W1 ⟨rfl,hb⟩;clear ol oM;have p9:=hbt ww hb;clear hb;go_wp2;exact bodyPost_ret (v:=.int .i64 s) (by simp[results,Tryz.results23,go_sem]) rfl ⟨rfl,p9.o⟩
theorem z2O (n1 n2 z n:Int)(en1 en2 en dn:Nat)(p1:Option Addr)(c1:Nat)(s1:Option Addr)(d1:Nat)(p2:Option Addr)(c2:Nat)(s2:Option Addr)(d2:Nat)(w:World)(h1:∀ p1 c1 p2 c2 W,RN W (.slice p1 (aa n1) c1) n1.natAbs→RN W (.slice p2 (aa n2) c2) n2.natAbs→CZ 69 #[.agg #[.bool (ah n1),.slice p1 (aa n1) c1],.agg #[.bool (ah n2),.slice p2 (aa n2) c2]] W z)(h2:∀ s1 d1 s2 d2 W,RN W (.slice s1 (ag en1) d1) en1→RN W (.slice s2 (ag en2) d2) en2→CN 66 #[.slice s1 (ag en1) d1,.slice s2 (ag en2) d2] W en)(h3:∀ p1 c1 s2 d2 W,RN W (.slice p1 (aa z) c1) z.natAbs→RN W (.slice s2 (ag en) d2) en→CF 68 #[.agg #[.bool (ah z),.slice p1 (aa z) c1],.slice s2 (ag en) d2] W n dn)(r1:RN w (.slice p1 (aa n1) c1) n1.natAbs)(t1:RN w (.slice s1 (ag en1) d1) en1)(r2:RN w (.slice p2 (aa n2) c2) n2.natAbs)(t2:RN w (.slice s2 (ag en2) d2) en2) :
 CF 28 #[.agg #[.bool (ah n1),.slice p1 (aa n1) c1,.slice s1 (ag en1) d1],.agg #[.bool (ah n2),.slice p2 (aa n2) c2,.slice s2 (ag en2) d2]] w n dn:=by
 obtain ⟨C1,C2,C3,R1,T1,R2,T2⟩:=fK h1 h2 h3 r1 t1 r2 t2;clear h1 h2 h3 r1 t1 r2 t2;go_enter Tryz.func28,Tryz.ntmps28
 go_upto_region 1 with fail
 refine az w [(#[.bool (ah n1),.slice p1 (aa n1) c1,.slice s1 (ag en1) d1],51),(#[.bool (ah n2),.slice p2 (aa n2) c2,.slice s2 (ag en2) d2],51),(#[.bool false,.slice none 0 0,.slice none 0 0],51)] rfl ?_;rintro W0 ⟨k1,k2,k3,hb⟩;have ww:=hid (show Below w.heap.size w W0 from hb);obtain ⟨R1,T1,R2,T2⟩:=aW ww.o R1 T1 R2 T2;obtain ⟨K1,K2,K3⟩:=ak k1 k2 k3;clear k1 k2 k3 hb;go_wp2_with fail
 refine aF (fun a0 a' V=>∃ ru rM rV p8 u6 w9 wo wu,a'=⟨putL [(5,.pointer (some ⟨w.heap.size,0,none⟩)),(6,.agg #[.bool (ah n1),.slice p1 (aa n1) c1]),(7,.pointer (some ⟨w.heap.size+1,0,none⟩)),(8,.agg #[.bool (ah n2),.slice p2 (aa n2) c2]),(9,.agg #[.bool (ah z),.slice ru (aa z) rM]),(10,.pointer (some ⟨w.heap.size,2,none⟩)),(11,.slice s1 (ag en1) d1),(12,.pointer (some ⟨w.heap.size+1,2,none⟩)),(13,.slice s2 (ag en2) d2),(14,.slice rV (ag en) p8),(15,.agg #[.bool (ah n),.slice u6 (aa n) w9,.slice wo (ag dn) wu])] a0.tmps,a0.defers⟩∧Below w.heap.size w V∧SBk V (w.heap.size+1+1) #[.bool (ah n),.slice u6 (aa n) w9,.slice wo (ag dn) wu] 51∧RN V (.slice u6 (aa n) w9) (n).natAbs∧RN V (.slice wo (ag dn) wu) (dn)) ?_ ?_
 · refine aU 11 1 [5,6,7,8,9,10,11,12,13,14,15] [Rel.val (.pointer (some ⟨w.heap.size,0,none⟩)),Rel.val (.agg #[.bool (ah n1),.slice p1 (aa n1) c1]),Rel.val (.pointer (some ⟨w.heap.size+1,0,none⟩)),Rel.val (.agg #[.bool (ah n2),.slice p2 (aa n2) c2]),Rel.int z,Rel.val (.pointer (some ⟨w.heap.size,2,none⟩)),Rel.val (.slice s1 (ag en1) d1),Rel.val (.pointer (some ⟨w.heap.size+1,2,none⟩)),Rel.val (.slice s2 (ag en2) d2),Rel.nat en,⟨fun v W=>∃ p c s d,v=.agg #[.bool (ah n),.slice p (aa n) c,.slice s (ag dn) d]∧RN W (.slice p (aa n) c) (n).natAbs∧RN W (.slice s (ag dn) d) (dn),fun _ _ _ ⟨p,c,s,d,e,h0,h1⟩ hb=>⟨p,c,s,d,e,h0.below hb,h1.below hb⟩⟩] ?_ ?_
   · intro gy a W i HI hD Hr him
     obtain⟨y2,y3⟩:=HI.o.s2 2 3;obtain ⟨ol,oM⟩:=au (K1.o.below HI.o.world) rfl rfl;obtain ⟨fq,fQ⟩:=au (K2.o.below HI.o.world) rfl rfl;have kV:=(K1.o.below HI.o.world).cell (i:=2) rfl;have ed:=(K2.o.below HI.o.world).cell (i:=2) rfl;obtain⟨X0,X2,X1,X3,X5,X7⟩:=HI.o.g6 0 5 2 7 1 6 3 8 5 10 7 12;obtain⟨X6,X8⟩:=HI.o.g2 6 11 8 13
     match i,him,Hr with
     | 0,_,Hi|1,_,Hi|2,_,Hi|3,_,Hi =>
       try have x0:=X0.t Hi.o
       try have x2:=X2.t Hi.o
       refine aA rfl fun K' hK=>?_;go_simp;exact hK.o _ _ (HI.o.pw Hi.o)
     | 4,_,Hi =>
       have x1:=X1.q Hi.o;have x3:=X3.q Hi.o;refine aA rfl fun K' hK=>?_;go_simp;with_reducible refine(C1.o _ _ _ _ _ (R1.o.below HI.o.world) (R2.o.below HI.o.world)).mono ?_
       rintro e W' ⟨ru,rM,rfl,pu,hb⟩;exact hK.o _ _ ⟨HI.o.pc Hi.o hb ⟨ru,rM,rfl,pu⟩,trivial⟩
     | 5,_,Hi|6,_,Hi|7,_,Hi|8,_,Hi =>
       try have x5:=X5.t Hi.o
       try have x7:=X7.t Hi.o
       refine aA rfl fun K' hK=>?_;go_simp;exact hK.o _ _ (HI.o.pw Hi.o)
     | 9,_,Hi =>
       have x6:=X6.q Hi.o;have x8:=X8.q Hi.o;refine aA rfl fun K' hK=>?_;go_simp;with_reducible refine(C2.o _ _ _ _ _ (T1.o.below HI.o.world) (T2.o.below HI.o.world)).mono ?_
       rintro e W' ⟨rV,p8,rfl,sw,hb⟩;exact hK.o _ _ ⟨HI.o.pc Hi.o hb ⟨rV,p8,rfl,sw⟩,trivial⟩
     | 10,_,Hi =>
       obtain⟨v',x4,ru,rM,e,pu⟩:=HI.o.at (i:=4) Hi.o (by kernel_rfl) (by decide);obtain rfl:=e;have x4:a.tmps[9]? = some (.agg #[.bool (ah z),.slice ru (aa z) rM]):=x4;have ek:=hid pu;clear pu;obtain⟨v',x9,rV,p8,e,sw⟩:=HI.o.at (i:=9) Hi.o (by kernel_rfl) (by decide);obtain rfl:=e;have x9:a.tmps[14]? = some (.slice rV (ag en) p8):=x9;have oV:=hid sw;clear sw;refine aA rfl fun K' hK=>?_;go_simp;with_reducible refine(C3.o _ _ _ _ _ ek.o oV.o).mono ?_
       rintro e W' ⟨u6,w9,wo,wu,rfl,kM,kS,hb⟩;exact hK.o _ _ ⟨HI.o.pc Hi.o hb ⟨u6,w9,wo,wu,rfl,kM,kS⟩,trivial⟩
     | n+11,h,_=>exact absurd h (by omega)
   · intro gy a W HI hD HA
     obtain⟨v',x4,ru,rM,e,pu⟩:=HI.o.slots 4 (by decide) (HA.o 4 (by decide));obtain rfl:=e;have ek:=hid pu;clear pu;obtain⟨v',x9,rV,p8,e,sw⟩:=HI.o.slots 9 (by decide) (HA.o 9 (by decide));obtain rfl:=e;have oV:=hid sw;clear sw;obtain⟨v',x10,u6,w9,wo,wu,e,kM,kS⟩:=HI.o.slots 10 (by decide) (HA.o 10 (by decide));obtain rfl:=e;have dX:=hid kM;clear kM;have dY:=hid kS;clear kS;have x10:a.tmps[15]? = some (.agg #[.bool (ah n),.slice u6 (aa n) w9,.slice wo (ag dn) wu]):=x10;have mf:=hid HI.o.world;obtain ⟨fo,K3⟩:=aD (ww.o.trans (mf.o.mono ww.o.size)) (K3.o.below mf.o);have RZ:=ek;have RE:=oV;have RQ:=dX;have TQ:=dY;have y4:=HI.o.rst 4 rfl;obtain ⟨d9,dx,dz⟩:=aP K3.o rfl rfl rfl;obtain ⟨bv,bM,bS⟩:=bU K3.o;refine bz (t:=0) ?_;refine aA rfl fun K' hK=>?_;go_simp;refine hK.o _ _ ?_;clear hK;refine bi ?_;have s0:∀ {v':Value} {n':Nat},RN W v' n'→RN (storeAll W (w.heap.size+1+1) 0 [.bool (ah n),.slice u6 (aa n) w9,.slice wo (ag dn) wu]) v' n':=fun h'=>aS _ h' K3.o (by simp[bF]) (by simp[aY]);exact⟨rfl,ru,rM,rV,p8,u6,w9,wo,wu,(HI.o.finx ⟨HI.o.sx HA.o 0,HI.o.sx HA.o 1,HI.o.sx HA.o 2,HI.o.sx HA.o 3,x4,HI.o.sx HA.o 5,HI.o.sx HA.o 6,HI.o.sx HA.o 7,HI.o.sx HA.o 8,x9,x10,trivial⟩ rfl),(ay (l:=[.bool (ah n),.slice u6 (aa n) w9,.slice wo (ag dn) wu]) (i:=0) (by omega) fo.o),(cK (l:=[.bool (ah n),.slice u6 (aa n) w9,.slice wo (ag dn) wu]) (i:=0) K3.o),(s0 RQ.o),(s0 TQ.o)⟩
 rintro a' W1 ⟨ru,rM,rV,p8,u6,w9,wo,wu,rfl,z0,z1,z2,z3⟩;obtain ⟨p9,K3,RQ,TQ⟩:=aM z0 z1 z2 z3;clear z0 z1 z2 z3;simp only[putL,List.setIfInBounds_toArray,List.set_cons_zero,List.set_cons_succ];go_wp2;obtain ⟨d9,dx,dz⟩:=aP K3.o rfl rfl rfl;exact bodyPost_ret (v:=.agg #[.bool (ah n),.slice u6 (aa n) w9,.slice wo (ag dn) wu]) (by simp[results,Tryz.results28,go_sem,d9,dx,dz]) rfl ⟨_,_,_,_,rfl,RQ.o,TQ.o,p9.o⟩
def LQ (q:Rat):Prop:=aa q.num≤10000∧ag q.den≤10000
theorem z6v (z:Int)(g:Nat)(hg:g∣z.natAbs):z / (g:Int)=if ah z then -((z.natAbs / g:Nat):Int) else ((z.natAbs / g:Nat):Int):=by
 have hd:(g:Int)∣(z.natAbs:Int):=Int.natCast_dvd_natCast.2 hg;unfold ah
 by_cases h:z<0
 · rw[decide_eq_true h,if_pos rfl]
   have e:z = -(z.natAbs:Int):=by omega
   conv=>lhs;rw[e]
   rw[Int.neg_ediv_of_dvd hd,Int.natCast_ediv]
 · rw[decide_eq_false h,if_neg (by simp),Int.natCast_ediv]
   congr 1
   omega
theorem z2p (z:Int)(n:Nat):z*(n:Int)=if ah z then -((z.natAbs*n:Nat):Int) else ((z.natAbs*n:Nat):Int):=by
 rw[Int.natCast_mul];unfold ah
 by_cases h:z<0
 · rw[decide_eq_true h,if_pos rfl,← Int.neg_mul];congr 1;omega
 · rw[decide_eq_false h,if_neg (by simp)];congr 1;omega
theorem z3S (x y:Rat)(h:x.den=y.den):x+y=mkRat (x.num+y.num) x.den:=by
 rw[jQ,← h,← Int.add_mul,Rat.mkRat_mul_right x.den_nz]
theorem kR (a b:Int):aa (a*b)≤aa a+aa b:=by
 unfold aa ag;rw[Int.natAbs_mul];exact fB _ _
theorem jV (a b:Nat):ag (a*b)≤ag a+ag b:=fB a b
theorem xE {a b:Int}{K:Nat}(ha:aa a≤K)(hb:aa b≤K):aa (a+b)≤K+1 :=
 Nat.le_trans (fI (Int.natAbs_add_le a b)) (fC (a:=a.natAbs) (b:=b.natAbs) ha hb)
theorem qP (n:Nat):aa (n:Int)=ag n:=by unfold aa;rw[Int.natAbs_natCast]
theorem rC (z:Int)(dn:Nat)(q:Rat)(hq:mkRat z dn=q)(hd:dn≠0)(hz:aa z≤50000)(hl:ag dn≤50000)(p1:Option Addr)(c1:Nat)(s2:Option Addr)(d2:Nat)(W:World)(r1:RN W (.slice p1 (aa z) c1) z.natAbs)(t2:RN W (.slice s2 (ag dn) d2) dn) :
 Calls Tryz.prog 68 #[.agg #[.bool (ah z),.slice p1 (aa z) c1],.slice s2 (ag dn) d2] W fun e w'=>∃ p c s d,e=.returned (.agg #[.bool (ah q.num),.slice p (aa q.num) c,.slice s (ag q.den) d])∧RN w' (.slice p (aa q.num) c) q.num.natAbs∧RN w' (.slice s (ag q.den) d) q.den∧Below W.heap.size W w':=by
 obtain⟨hn,he⟩:=jW z dn hd;rw[hq]at hn he;obtain⟨g,hg⟩:∃ g,g=Nat.gcd z.natAbs dn:=⟨_,rfl⟩;rw[← hg]at hn he;by_cases g1:g=1
 · rw[g1]at hn he
   have e1:q.num=z:=by rw[hn];simp
   have e2:q.den=dn:=by rw[he];simp
   rw[e1,e2];exact zI z dn hz hl p1 c1 s2 d2 (by rw[← hg,g1]) W r1 t2
 · have g0:g≠0:=by rw[hg];exact Nat.ne_of_gt (Nat.gcd_pos_of_pos_right _ (by omega))
   have hy:=z6v z g (by rw[hg];exact Nat.gcd_dvd_left _ _);rw[hn,he];by_cases gl:ag g=1
   · exact wB z dn hz hl p1 c1 s2 d2 g _ _ _ _ _ hg.symm g0 g1 gl rfl rfl rfl rfl hy W r1 t2
   · exact wC z dn hz hl p1 c1 s2 d2 g _ _ _ _ _ hg.symm g0 gl rfl rfl rfl rfl hy W r1 t2
theorem z5M (k:Int)(q:Rat)(n:Nat)(hk:(n:Int)=k)(h1:n≤2000000000)(hn:q.num=k)(he:q.den=1)  (W:World)  :
 Calls Tryz.prog 54 #[.int .i64 k] W fun e w'=>∃ p c s d,e=.returned (.agg #[.bool (ah q.num),.slice p (aa q.num) c,.slice s (ag q.den) d])∧RN w' (.slice p (aa q.num) c) q.num.natAbs∧RN w' (.slice s (ag q.den) d) q.den∧Below W.heap.size W w':=by
 refine z2Q k q.num q.den W (fun W=>?_) (fun W=>?_)
 · rw[hn];exact z4o k n hk (by omega) (by omega) W
 · rw[he];exact kQ 1 1 rfl (by decide) W
theorem z6B (x q:Rat)(hq:x⁻¹=q)(h0:x≠0)(hx:LQ x)(p1:Option Addr)(c1:Nat)(s1:Option Addr)(d1:Nat)(W:World)(r1:RN W (.slice p1 (aa x.num) c1) x.num.natAbs)(t1:RN W (.slice s1 (ag x.den) d1) x.den) :
 Calls Tryz.prog 61 #[.agg #[.bool (ah x.num),.slice p1 (aa x.num) c1,.slice s1 (ag x.den) d1]] W fun e w'=>∃ p c s d,e=.returned (.agg #[.bool (ah q.num),.slice p (aa q.num) c,.slice s (ag q.den) d])∧RN w' (.slice p (aa q.num) c) q.num.natAbs∧RN w' (.slice s (ag q.den) d) q.den∧Below W.heap.size W w':=by
 have hm:q.num=(if ah x.num then -(x.den:Int) else (x.den:Int))∧q.den=x.num.natAbs:=by
  rw[← hq];have hn0:x.num≠0:=fun e=>h0 (Rat.num_eq_zero.1 e);unfold ah
  rcases Int.lt_trichotomy x.num 0 with h|h|h
  · obtain⟨e1,e2⟩:=lu h
    rw[decide_eq_true h,if_pos rfl];exact⟨e1,by omega⟩
  · exact absurd h hn0
  · obtain⟨e1,e2⟩:=inv_pos h
    rw[decide_eq_false (by omega),if_neg (by simp)];exact⟨e1,by omega⟩
 obtain⟨e1,e2⟩:=hm;rw[e2];exact z2P x.num q.num x.den p1 c1 s1 d1 W (fun s d W h=>jc (ah x.num) _ x.den q.num e1 (Nat.le_trans hx.2 (by decide)) W h) r1 t1
theorem z0A (x:Rat)(s:Int)(hs:x.num.sign=s)(p1:Option Addr)(c1:Nat)(s1:Option Addr)(d1:Nat)(W:World)(r1:RN W (.slice p1 (aa x.num) c1) x.num.natAbs)(t1:RN W (.slice s1 (ag x.den) d1) x.den) :
 CR 23 #[.agg #[.bool (ah x.num),.slice p1 (aa x.num) c1,.slice s1 (ag x.den) d1]] W (.int .i64 s):=by
 exact z0Q x.num s x.den p1 c1 s1 d1 W (fun p c W h=>vO x.num s hs p c W h) r1 t1
theorem z0B (x y q:Rat)(hq:x*y=q)(hx:LQ x)(hy:LQ y)(p1:Option Addr)(c1:Nat)(s1:Option Addr)(d1:Nat)(p2:Option Addr)(c2:Nat)(s2:Option Addr)(d2:Nat)(W:World)(r1:RN W (.slice p1 (aa x.num) c1) x.num.natAbs)(t1:RN W (.slice s1 (ag x.den) d1) x.den)(r2:RN W (.slice p2 (aa y.num) c2) y.num.natAbs)(t2:RN W (.slice s2 (ag y.den) d2) y.den) :
 Calls Tryz.prog 28 #[.agg #[.bool (ah x.num),.slice p1 (aa x.num) c1,.slice s1 (ag x.den) d1],.agg #[.bool (ah y.num),.slice p2 (aa y.num) c2,.slice s2 (ag y.den) d2]] W fun e w'=>∃ p c s d,e=.returned (.agg #[.bool (ah q.num),.slice p (aa q.num) c,.slice s (ag q.den) d])∧RN w' (.slice p (aa q.num) c) q.num.natAbs∧RN w' (.slice s (ag q.den) d) q.den∧Below W.heap.size W w':=by
 obtain⟨a1,a2⟩:=hx;obtain⟨b1,b2⟩:=hy;have l1:=kR x.num y.num;have l2:=jV x.den y.den
 exact z2O x.num y.num (x.num*y.num) q.num x.den y.den (x.den*y.den) q.den p1 c1 s1 d1 p2 c2 s2 d2 W (fun p1 c1 p2 c2 W h1 h2=>z5L _ _ _ rfl (by omega) (by omega) p1 c1 p2 c2 W h1 h2)
  (fun s1 d1 s2 d2 W h1 h2=>oN _ _ _ _ (by omega) (by omega) W h1 h2)
  (fun p1 c1 s2 d2 W h1 h2=>rC _ _ q (by rw[← hq,jH]) (Nat.mul_ne_zero x.den_nz y.den_nz) (by omega) (by omega) p1 c1 s2 d2 W h1 h2) r1 t1 r2 t2
theorem z6C (x y q:Rat)(hq:x+y=q)(hx:LQ x)(hy:LQ y)(p1:Option Addr)(c1:Nat)(s1:Option Addr)(d1:Nat)(p2:Option Addr)(c2:Nat)(s2:Option Addr)(d2:Nat)(W:World)(r1:RN W (.slice p1 (aa x.num) c1) x.num.natAbs)(t1:RN W (.slice s1 (ag x.den) d1) x.den)(r2:RN W (.slice p2 (aa y.num) c2) y.num.natAbs)(t2:RN W (.slice s2 (ag y.den) d2) y.den) :
 Calls Tryz.prog 77 #[.agg #[.bool (ah x.num),.slice p1 (aa x.num) c1,.slice s1 (ag x.den) d1],.agg #[.bool (ah y.num),.slice p2 (aa y.num) c2,.slice s2 (ag y.den) d2]] W fun e w'=>∃ p c s d,e=.returned (.agg #[.bool (ah q.num),.slice p (aa q.num) c,.slice s (ag q.den) d])∧RN w' (.slice p (aa q.num) c) q.num.natAbs∧RN w' (.slice s (ag q.den) d) q.den∧Below W.heap.size W w':=by
 obtain⟨a1,a2⟩:=hx;obtain⟨b1,b2⟩:=hy;by_cases he:x.den=y.den
 · have l1:=xE a1 b1
   exact z0S x.num y.num (x.num+y.num) q.num x.den y.den q.den p1 c1 s1 d1 p2 c2 s2 d2 W (fun s1 d1 s2 d2 W h1 h2=>by
        have h:=cCmp _ _ x.den y.den (by omega) W h1 h2
        rwa [show cmpN x.den y.den=0 by rw[he];unfold cmpN;simp]at h)
    (fun p1 c1 p2 c2 W h1 h2=>z5O _ _ _ rfl (by omega) (by omega) p1 c1 p2 c2 W h1 h2)
    (fun p1 c1 s2 d2 W h1 h2=>rC _ _ q (by rw[← hq,z3S x y he]) x.den_nz (by omega) (by omega) p1 c1 s2 d2 W h1 h2) r1 t1 r2 t2
 · have l1:=kR x.num (y.den:Int)
   have l2:=kR y.num (x.den:Int);have l3:=jV x.den y.den;have l4:=jV x.num.natAbs y.den;have l5:=jV y.num.natAbs x.den;rw[qP]at l1 l2;have l6:=xE (a:=x.num*(y.den:Int)) (b:=y.num*(x.den:Int)) (K:=20000) (by omega) (by omega);have z1:aa x.num=ag x.num.natAbs:=rfl;have z2:aa y.num=ag y.num.natAbs:=rfl
   exact zf x.num y.num (x.num*(y.den:Int)) (y.num*(x.den:Int)) (x.num*(y.den:Int)+y.num*(x.den:Int)) q.num (cmpN x.den y.den) x.den y.den (x.den*y.den) q.den (x.num.natAbs*y.den) (y.num.natAbs*x.den) (fun e=>he (by unfold cmpN at e;split at e<;>first|(split at e<;>first|omega|simp at e)|simp at e))
    p1 c1 s1 d1 p2 c2 s2 d2 W (fun s1 d1 s2 d2 W h1 h2=>cCmp _ _ x.den y.den (by omega) W h1 h2)
    (fun p1 c1 s2 d2 W h1 h2=>oN _ _ _ _ (by omega) (by omega) W h1 h2) (fun s2 d2 W h=>jc _ _ _ _ (z2p x.num y.den) (by omega) W h)
    (fun p1 c1 s2 d2 W h1 h2=>oN _ _ _ _ (by omega) (by omega) W h1 h2) (fun s2 d2 W h=>jc _ _ _ _ (z2p y.num x.den) (by omega) W h)
    (fun p1 c1 p2 c2 W h1 h2=>z5O _ _ _ rfl (by omega) (by omega) p1 c1 p2 c2 W h1 h2)
    (fun s1 d1 s2 d2 W h1 h2=>oN _ _ _ _ (by omega) (by omega) W h1 h2)
    (fun p1 c1 s2 d2 W h1 h2=>rC _ _ q (by rw[← hq,jQ]) (Nat.mul_ne_zero x.den_nz y.den_nz) (by omega) (by omega) p1 c1 s2 d2 W h1 h2) r1 t1 r2 t2
theorem z5N (x y q:Rat)(hq:x / y=q)(h0:y≠0)(hx:LQ x)(hy:LQ y)(p1:Option Addr)(c1:Nat)(s1:Option Addr)(d1:Nat)(p2:Option Addr)(c2:Nat)(s2:Option Addr)(d2:Nat)(W:World)(r1:RN W (.slice p1 (aa x.num) c1) x.num.natAbs)(t1:RN W (.slice s1 (ag x.den) d1) x.den)(r2:RN W (.slice p2 (aa y.num) c2) y.num.natAbs)(t2:RN W (.slice s2 (ag y.den) d2) y.den) :
 Calls Tryz.prog 24 #[.agg #[.bool (ah x.num),.slice p1 (aa x.num) c1,.slice s1 (ag x.den) d1],.agg #[.bool (ah y.num),.slice p2 (aa y.num) c2,.slice s2 (ag y.den) d2]] W fun e w'=>∃ p c s d,e=.returned (.agg #[.bool (ah q.num),.slice p (aa q.num) c,.slice s (ag q.den) d])∧RN w' (.slice p (aa q.num) c) q.num.natAbs∧RN w' (.slice s (ag q.den) d) q.den∧Below W.heap.size W w':=by
 have hny:LQ y⁻¹:=by
  have hn0:y.num≠0:=fun e=>h0 (Rat.num_eq_zero.1 e);rcases Int.lt_trichotomy y.num 0 with h|h|h
  · obtain⟨e1,e2⟩:=lu h
    exact⟨by unfold aa;rw[e1,Int.natAbs_neg,Int.natAbs_natCast];exact hy.2,by rw[show y⁻¹.den=y.num.natAbs by omega];exact hy.1⟩
  · exact absurd h hn0
  · obtain⟨e1,e2⟩:=inv_pos h
    exact⟨by unfold aa;rw[e1,Int.natAbs_natCast];exact hy.2,by rw[show y⁻¹.den=y.num.natAbs by omega];exact hy.1⟩
 exact z2R x.num y.num y⁻¹.num q.num x.den y.den y⁻¹.den q.den p1 c1 s1 d1 p2 c2 s2 d2 W (fun p1 c1 s1 d1 W h1 h2=>z6B y _ rfl h0 hy p1 c1 s1 d1 W h1 h2)
  (fun p1 c1 s1 d1 p2 c2 s2 d2 W h1 h2 h3 h4=>z0B x y⁻¹ q (by rw[← hq,Rat.div_def]) hx hny p1 c1 s1 d1 p2 c2 s2 d2 W h1 h2 h3 h4) r1 t1 r2 t2
theorem uX (x y:Rat):(x.num.sign<y.num.sign→cmpQ x y = -1)∧(y.num.sign<x.num.sign→cmpQ x y=1):=by
 have hx:=x.den_pos;have hy:=y.den_pos;rw[jb x y _ _ rfl rfl];have key:∀ (a:Int) (n:Nat),0<n→(a*(n:Int)).sign=a.sign:=fun a n hn=>by rw[Int.sign_mul,Int.sign_natCast_of_ne_zero (by omega),Int.mul_one]
 have k1:=key x.num y.den hy;have k2:=key y.num x.den hx;generalize x.num*(y.den:Int)=a at *;generalize y.num*(x.den:Int)=b at *;rw[← k1,← k2];have ha:=Int.sign_trichotomy a
 have lt:a.sign<b.sign→a<b:=by
  intro h
  rcases Int.lt_trichotomy a 0 with h1|h1|h1<;>rcases Int.lt_trichotomy b 0 with h2|h2|h2 <;>
   first|omega|(rw[Int.sign_eq_neg_one_of_neg h1,Int.sign_eq_neg_one_of_neg h2]at h;omega)|(rw[Int.sign_eq_one_of_pos h1,Int.sign_eq_one_of_pos h2]at h;omega)|(rw[Int.sign_eq_one_of_pos h1,Int.sign_eq_neg_one_of_neg h2]at h;omega)|(subst h1;rw[Int.sign_zero,Int.sign_eq_neg_one_of_neg h2]at h;omega)|(subst h2;rw[Int.sign_zero,Int.sign_eq_one_of_pos h1]at h;omega)|(subst h1;subst h2;omega)
 have gt:b.sign<a.sign→b<a:=by
  intro h
  rcases Int.lt_trichotomy a 0 with h1|h1|h1<;>rcases Int.lt_trichotomy b 0 with h2|h2|h2 <;>
   first|omega|(rw[Int.sign_eq_neg_one_of_neg h1,Int.sign_eq_neg_one_of_neg h2]at h;omega)|(rw[Int.sign_eq_one_of_pos h1,Int.sign_eq_one_of_pos h2]at h;omega)|(rw[Int.sign_eq_neg_one_of_neg h1,Int.sign_eq_one_of_pos h2]at h;omega)|(subst h1;rw[Int.sign_zero,Int.sign_eq_one_of_pos h2]at h;omega)|(subst h2;rw[Int.sign_zero,Int.sign_eq_neg_one_of_neg h1]at h;omega)|(subst h1;subst h2;omega)
 constructor
 · intro h;rw[if_pos (lt h)]
 · intro h
   have:=gt h;rw[if_neg (by omega),if_pos this]
theorem z4M (x y:Rat)(k:Int)(hk:cmpQ x y=k)(hx:LQ x)(hy:LQ y)(p1:Option Addr)(c1:Nat)(s1:Option Addr)(d1:Nat)(p2:Option Addr)(c2:Nat)(s2:Option Addr)(d2:Nat)(W:World)(r1:RN W (.slice p1 (aa x.num) c1) x.num.natAbs)(t1:RN W (.slice s1 (ag x.den) d1) x.den)(r2:RN W (.slice p2 (aa y.num) c2) y.num.natAbs)(t2:RN W (.slice s2 (ag y.den) d2) y.den) :
 CR 27 #[.agg #[.bool (ah x.num),.slice p1 (aa x.num) c1,.slice s1 (ag x.den) d1],.agg #[.bool (ah y.num),.slice p2 (aa y.num) c2,.slice s2 (ag y.den) d2]] W (.int .i64 k):=by
 obtain⟨a1,a2⟩:=hx;obtain⟨b1,b2⟩:=hy;have hS1:=fun p1 c1 s1 d1 W h1 h2=>z0A x _ rfl p1 c1 s1 d1 W h1 h2;have hS2:=fun p1 c1 s1 d1 W h1 h2=>z0A y _ rfl p1 c1 s1 d1 W h1 h2;obtain⟨hlt,hgt⟩:=uX x y;rcases Int.lt_trichotomy x.num.sign y.num.sign with h|h|h
 · rw[← hk,hlt h]
   exact z4X x.num y.num _ _ x.den y.den h p1 c1 s1 d1 p2 c2 s2 d2 W hS1 hS2 r1 t1 r2 t2
 · rw[← h]at hS2
   have l1:=kR x.num (y.den:Int);have l2:=kR y.num (x.den:Int);rw[qP]at l1 l2;have l4:=jV x.num.natAbs y.den;have l5:=jV y.num.natAbs x.den;have z1:aa x.num=ag x.num.natAbs:=rfl;have z2:aa y.num=ag y.num.natAbs:=rfl
   refine z0R x.num y.num _ (x.num*(y.den:Int)) (y.num*(x.den:Int)) k x.den y.den (x.num.natAbs*y.den) (y.num.natAbs*x.den) p1 c1 s1 d1 p2 c2 s2 d2 W hS1 hS2
    (fun p1 c1 s2 d2 W h1 h2=>oN _ _ _ _ (by omega) (by omega) W h1 h2) (fun s2 d2 W h=>jc _ _ _ _ (z2p x.num y.den) (by omega) W h)
    (fun p1 c1 s2 d2 W h1 h2=>oN _ _ _ _ (by omega) (by omega) W h1 h2) (fun s2 d2 W h=>jc _ _ _ _ (z2p y.num x.den) (by omega) W h) (fun p1 c1 p2 c2 W h1 h2=>?_) r1 t1 r2 t2
   have hc:=zCmp _ _ (x.num*(y.den:Int)) (y.num*(x.den:Int)) (show aa _≤50000 by omega) (show aa _≤50000 by omega) W (Rz.mk h1) (Rz.mk h2);rw[show cmpZ (x.num*(y.den:Int)) (y.num*(x.den:Int))=k by rw[← hk,jb x y _ _ rfl rfl];rfl]at hc;exact hc
 · rw[← hk,hgt h]
   exact z4Y x.num y.num _ _ x.den y.den h p1 c1 s1 d1 p2 c2 s2 d2 W hS1 hS2 r1 t1 r2 t2
theorem sQTo (q:Rat)(s:ByteArray)(hs:Sq q=s)(hq:SmQ 9000 q)(p1:Option Addr)(c1:Nat)(s1:Option Addr)(d1:Nat)(W:World)(r1:RN W (.slice p1 (aa q.num) c1) q.num.natAbs)(t1:RN W (.slice s1 (ag q.den) d1) q.den) :
 CR 29 #[.agg #[.bool (ah q.num),.slice p1 (aa q.num) c1,.slice s1 (ag q.den) d1]] W (.string s):=by
 have l1:aa q.num≤9000:=eF hq.1 (by decide);have l2:ag q.den≤9000:=eF hq.2 (by decide);have z1:(Sn q.num.natAbs).size≤9000:=fT hq.1 (by decide);have z2:(Sn q.den).size≤9000:=fT hq.2 (by decide);have z3:(Sz q.num).size≤9001:=kF hq.1 (by decide);have h1:=fun p c W h=>sTo q.num _ rfl (Nat.le_trans l1 (by decide)) (by omega) p c W h;have h2:=fun(s:Option Addr) (d:Nat) W h=>z2g (.slice s (ag q.den) d) q.den (Nat.le_trans l2 (by decide)) W h;subst hs;by_cases hd:q.den=1
 · unfold Sq
   rw[if_pos hd]
   exact z4V q.num q.den (Sz q.num) p1 c1 s1 d1 W h1 (fun s d W h=>by
    have:=h2 s d W h
    rwa [hd,show Sn 1=⟨#[49]⟩by decide +kernel,← hd]at this) r1 t1
 · unfold Sq
   rw[if_neg hd];refine z2N q.num q.den (Sz q.num) (Sn q.den) _ ?_ ?_ (by omega) (by omega) p1 c1 s1 d1 W h1 h2 r1 t1
   · rw[beq_eq_false_iff_ne]
     intro e;apply hd
     have e2:Sn q.den=Sn 1:=by
       apply ByteArray.ext;apply Array.ext'
       rw[toList_data]at e;rw[e];decide +kernel
     exact z4k e2
   · apply ByteArray.ext;apply Array.ext'
     simp[Sn]
