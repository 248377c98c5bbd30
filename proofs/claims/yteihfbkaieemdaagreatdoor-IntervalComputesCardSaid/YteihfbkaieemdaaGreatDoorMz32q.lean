/- texts -/
import Derived.Test.YteihfbkaieemdaaGreatDoorMz29q
open Go.Proofs.Tryz
set_option maxRecDepth 100000
set_option maxHeartbeats 20000000
open Go.Lib (hid)
namespace Go.Proofs.YteihfbkaieemdaaGreatDoor
open Go.RowKit Go.Gb
theorem z1y (k n:Int)(dn:Nat)  (w:World)(h1:∀ W,CZ 75 #[.int .i64 k] W n)(h2:∀ W,CN 76 #[.int .u32 1] W dn)  :
 CF 50 #[.int .i64 k] w n dn:=by
 have C1:=hid h1;have C2:=hid h2;clear h1 h2;go_enter func50,ntmps50
 go_upto_region 1 with fail
 refine ay w [(#[.bool false,.slice none 0 0,.slice none 0 0],54)] rfl ?_;rintro W0 ⟨k1,hb⟩;have wm:=hid (show Below w.heap.size w W0 from hb);have K1:=hid k1;clear k1 hb;go_wp2_with fail
 with_reducible refine(C1.o _).mono ?_
 rintro e W1 ⟨p_1,c_1,rfl,u0v,hb⟩;have K1:=hid (K1.o.below hb);have r9:=hbt wm hb;have RN1:=hid u0v;clear hb u0v;go_wp2_with fail
 with_reducible refine(C2.o _).mono ?_
 rintro e W2 ⟨p_2,c_2,rfl,u0w,hb⟩;obtain ⟨K1,RN1⟩:=aU hb K1 RN1;have HB2:=hbt r9 hb;have RD1:=hid u0w;clear hb u0w;obtain ⟨bV,af,dX⟩:=aQ K1.o rfl rfl rfl;obtain ⟨u0P,u0Q,u0R⟩:=bZ K1.o;go_wp2;exact bodyPost_ret (v:=.agg #[.bool (ai n),.slice p_1 (ae n) c_1,.slice p_2 (ag dn) c_2]) (by simp[results,results50,go_sem,bV,af,dX]) rfl ⟨_,_,_,_,rfl,(bB [.bool (ai n),.slice p_1 (ae n) c_1,.slice p_2 (ag dn) c_2] RN1.o K1.o (by simp[bQ]) (by simp[bi])),(bB [.bool (ai n),.slice p_1 (ae n) c_1,.slice p_2 (ag dn) c_2] RD1.o K1.o (by simp[bQ]) (by simp[bi])),(ax (l:=[.bool (ai n),.slice p_1 (ae n) c_1,.slice p_2 (ag dn) c_2]) (i:=0) (by omega) HB2.o)⟩
theorem z1v (n m:Int)(en:Nat)(p1:Option Addr)(c1:Nat)(s1:Option Addr)(d1:Nat)(w:World)(h1:∀ p1 c1 W,RN W (.slice p1 (ae n) c1) n.natAbs→CZ 119 #[.agg #[.bool (ai n),.slice p1 (ae n) c1]] W m)(r1:RN w (.slice p1 (ae n) c1) n.natAbs)(t1:RN w (.slice s1 (ag en) d1) en) :
 CF 83 #[.agg #[.bool (ai n),.slice p1 (ae n) c1,.slice s1 (ag en) d1]] w m en:=by
 obtain ⟨C1,R1,T1⟩:=ak h1 r1 t1;clear h1 r1 t1;go_enter func83,ntmps83
 go_upto_region 1 with fail
 refine ay w [(#[.bool (ai n),.slice p1 (ae n) c1,.slice s1 (ag en) d1],54),(#[.bool false,.slice none 0 0,.slice none 0 0],54)] rfl ?_;rintro W0 ⟨k1,k2,hb⟩;have wm:=hid (show Below w.heap.size w W0 from hb);obtain ⟨R1,T1⟩:=aU wm.o R1 T1;obtain ⟨K1,K2⟩:=aB k1 k2;clear k1 k2 hb;go_wp2_with fail
 refine aG (fun a0 a' V=>∃ gF fq mi l5,a'=⟨putL [(3,.pointer (some ⟨w.heap.size,0,none⟩)),(4,.agg #[.bool (ai n),.slice p1 (ae n) c1]),(5,.agg #[.bool (ai m),.slice gF (ae m) fq]),(6,.pointer (some ⟨w.heap.size,2,none⟩)),(7,.slice s1 (ag en) d1),(8,.agg #[.bool (ai m),.slice mi (ae m) l5,.slice s1 (ag en) d1])] a0.tmps,a0.defers⟩∧Below w.heap.size w V∧SBk V (w.heap.size+1) #[.bool (ai m),.slice mi (ae m) l5,.slice s1 (ag en) d1] 54∧RN V (.slice s1 (ag en) d1) en∧RN V (.slice mi (ae m) l5) m.natAbs) ?_ ?_
 · refine bN 6 1 [3,4,5,6,7,8] [Rel.val (.pointer (some ⟨w.heap.size,0,none⟩)),Rel.val (.agg #[.bool (ai n),.slice p1 (ae n) c1]),Rel.int m,Rel.val (.pointer (some ⟨w.heap.size,2,none⟩)),Rel.val (.slice s1 (ag en) d1),⟨fun v W=>∃ pa ca,v=.agg #[.bool (ai m),.slice pa (ae m) ca,.slice s1 (ag en) d1]∧RN W (.slice pa (ae m) ca) m.natAbs,fun _ _ _ ⟨pa,ca,e,h0⟩ hb=>⟨pa,ca,e,h0.below hb⟩⟩] ?_ ?_
   · intro l6 a W i HI hD Hr him
     have y1:=HI.o.rst 1 rfl;obtain ⟨bV,af,dX⟩:=aQ (K1.o.below HI.o.world) rfl rfl rfl;obtain⟨X0,X1,X3⟩:=HI.o.g3 0 3 1 4 3 6;have X4:=HI.o.rg 4 7 rfl
     match i,him,Hr with
     | 0,_,Hi|1,_,Hi =>
       try have x0:=X0.t Hi.o
       refine aI rfl fun K' hK=>?_;go_simp;exact hK.o _ _ (HI.o.pw Hi.o)
     | 2,_,Hi =>
       have x1:=X1.q Hi.o;refine aI rfl fun K' hK=>?_;go_simp;with_reducible refine(C1.o _ _ _ (R1.o.below HI.o.world)).mono ?_
       rintro e W' ⟨gF,fq,rfl,au,hb⟩;exact hK.o _ _ ⟨HI.o.pc Hi.o hb ⟨gF,fq,rfl,au⟩,trivial⟩
     | 3,_,Hi|4,_,Hi =>
       try have x3:=X3.t Hi.o
       refine aI rfl fun K' hK=>?_;go_simp;exact hK.o _ _ (HI.o.pw Hi.o)
     | 5,_,Hi =>
       obtain⟨v',x2,gF,fq,e,au⟩:=HI.o.at (i:=2) Hi.o (by kernel_rfl) (by decide);obtain rfl:=e;have x2:a.tmps[5]? = some (.agg #[.bool (ai m),.slice gF (ae m) fq]):=x2;have u0o:=hid au;clear au;have x4:=X4.q Hi.o;refine aI rfl fun K' hK=>?_;go_simp;exact hK.o _ _ ⟨HI.o.pv Hi.o ⟨gF,fq,rfl,u0o.o⟩,trivial⟩
     | n+6,h,_=>exact absurd h (by omega)
   · intro l6 a W HI hD HA
     obtain⟨v',x2,gF,fq,e,au⟩:=HI.o.slots 2 (by decide) (HA.o 2 (by decide));obtain rfl:=e;have u0o:=hid au;clear au;obtain⟨v',x5,mi,l5,e,kV⟩:=HI.o.slots 5 (by decide) (HA.o 5 (by decide));obtain rfl:=e;have u0d:=hid kV;clear kV;have x5:a.tmps[8]? = some (.agg #[.bool (ai m),.slice mi (ae m) l5,.slice s1 (ag en) d1]):=x5;have wo:=hid HI.o.world;obtain ⟨K2,T1⟩:=aU wo.o K2 T1;have lg:=Lib.hid (wm.o.trans (wo.o.mono wm.o.size));have RM:=u0o;have RMb:=u0d;have y2:=HI.o.rst 2 rfl;obtain ⟨u00,u01,gy⟩:=aQ K2.o rfl rfl rfl;obtain ⟨u0A,u0B,u0C⟩:=bZ K2.o;refine aY (t:=0) ?_;refine aI rfl fun K' hK=>?_;go_simp;refine hK.o _ _ ?_;clear hK;refine bH ?_;have s0:∀ {v':Value} {n':Nat},RN W v' n'→RN (storeAll W (w.heap.size+1) 0 [.bool (ai m),.slice mi (ae m) l5,.slice s1 (ag en) d1]) v' n':=fun h'=>bB _ h' K2.o (by simp[bQ]) (by simp[bi]);exact⟨rfl,gF,fq,mi,l5,(HI.o.finx ⟨HI.o.sx HA.o 0,HI.o.sx HA.o 1,x2,HI.o.sx HA.o 3,HI.o.sx HA.o 4,x5,trivial⟩ rfl),(ax (l:=[.bool (ai m),.slice mi (ae m) l5,.slice s1 (ag en) d1]) (i:=0) (by omega) lg.o),(dm (l:=[.bool (ai m),.slice mi (ae m) l5,.slice s1 (ag en) d1]) (i:=0) K2.o),(s0 T1.o),(s0 RMb.o)⟩
 rintro a' W1 ⟨gF,fq,mi,l5,rfl,z0,z1,z2,z3⟩;obtain ⟨r9,K2,T1,RMb⟩:=aJ z0 z1 z2 z3;clear z0 z1 z2 z3;simp only[putL,List.setIfInBounds_toArray,List.set_cons_zero,List.set_cons_succ];go_wp2;obtain ⟨u00,u01,gy⟩:=aQ K2.o rfl rfl rfl;exact bodyPost_ret (v:=.agg #[.bool (ai m),.slice mi (ae m) l5,.slice s1 (ag en) d1]) (by simp[results,results83,go_sem,u00,u01,gy]) rfl ⟨_,_,_,_,rfl,RMb.o,T1.o,r9.o⟩
theorem z1x (n m:Int)(en:Nat)(p1:Option Addr)(c1:Nat)(s1:Option Addr)(d1:Nat)(w:World)(h1:∀ s2 d2 W,RN W (.slice s2 (ag en) d2) en→CZ 77 #[.bool (ai n),.slice s2 (ag en) d2] W m)(r1:RN w (.slice p1 (ae n) c1) n.natAbs)(t1:RN w (.slice s1 (ag en) d1) en) :
 Calls Tryz.prog 70 #[.agg #[.bool (ai n),.slice p1 (ae n) c1,.slice s1 (ag en) d1]] w fun e w'=>∃ p c s d,e=.returned (.agg #[.bool (ai m),.slice p (ae m) c,.slice s (ag n.natAbs) d])∧RN w' (.slice p (ae m) c) m.natAbs∧RN w' (.slice s (ag n.natAbs) d) n.natAbs∧Below w.heap.size w w':=by
 obtain ⟨C1,R1,T1⟩:=ak h1 r1 t1;clear h1 r1 t1;go_enter func70,ntmps70
 go_upto_region 1 with fail
 refine ay w [(#[.bool (ai n),.slice p1 (ae n) c1,.slice s1 (ag en) d1],54),(#[.bool false,.slice none 0 0,.slice none 0 0],54)] rfl ?_;rintro W0 ⟨k1,k2,hb⟩;have wm:=hid (show Below w.heap.size w W0 from hb);obtain ⟨R1,T1⟩:=aU wm.o R1 T1;obtain ⟨K1,K2⟩:=aB k1 k2;clear k1 k2 hb;go_wp2_with fail
 refine aG (fun a0 a' V=>∃ fQ ed lv kz,a'=⟨putL [(3,.pointer (some ⟨w.heap.size,0,none⟩)),(4,.pointer (some ⟨w.heap.size,0,none⟩)),(5,.bool (ai n)),(6,.pointer (some ⟨w.heap.size,2,none⟩)),(7,.slice s1 (ag en) d1),(8,.agg #[.bool (ai m),.slice fQ (ae m) ed]),(9,.pointer (some ⟨w.heap.size,0,none⟩)),(10,.pointer (some ⟨w.heap.size,1,none⟩)),(11,.slice p1 (ae n) c1),(12,.agg #[.bool (ai m),.slice lv (ae m) kz,.slice p1 (ae n) c1])] a0.tmps,a0.defers⟩∧Below w.heap.size w V∧SBk V (w.heap.size+1) #[.bool (ai m),.slice lv (ae m) kz,.slice p1 (ae n) c1] 54∧RN V (.slice p1 (ae n) c1) n.natAbs∧RN V (.slice lv (ae m) kz) m.natAbs) ?_ ?_
 · refine bN 10 1 [3,4,5,6,7,8,9,10,11,12] [Rel.val (.pointer (some ⟨w.heap.size,0,none⟩)),Rel.val (.pointer (some ⟨w.heap.size,0,none⟩)),Rel.val (.bool (ai n)),Rel.val (.pointer (some ⟨w.heap.size,2,none⟩)),Rel.val (.slice s1 (ag en) d1),Rel.int m,Rel.val (.pointer (some ⟨w.heap.size,0,none⟩)),Rel.val (.pointer (some ⟨w.heap.size,1,none⟩)),Rel.val (.slice p1 (ae n) c1),⟨fun v W=>∃ pa ca,v=.agg #[.bool (ai m),.slice pa (ae m) ca,.slice p1 (ae n) c1]∧RN W (.slice pa (ae m) ca) m.natAbs,fun _ _ _ ⟨pa,ca,e,h0⟩ hb=>⟨pa,ca,e,h0.below hb⟩⟩] ?_ ?_
   · intro l6 a W i HI hD Hr him
     have y1:=HI.o.rst 1 rfl;have bV:=(K1.o.below HI.o.world).cell (i:=0) rfl;have dX:=(K1.o.below HI.o.world).cell (i:=2) rfl;have af:=(K1.o.below HI.o.world).cell (i:=1) rfl;obtain⟨X0,X1,X3,X2,X4,X6⟩:=HI.o.g6 0 3 1 4 3 6 2 5 4 7 6 9;obtain⟨X7,X8⟩:=HI.o.g2 7 10 8 11
     match i,him,Hr with
     | 0,_,Hi|1,_,Hi|2,_,Hi|3,_,Hi|4,_,Hi =>
       try have x0:=X0.t Hi.o
       try have x1:=X1.t Hi.o
       try have x3:=X3.t Hi.o
       refine aI rfl fun K' hK=>?_;go_simp;exact hK.o _ _ (HI.o.pw Hi.o)
     | 5,_,Hi =>
       have x2:=X2.q Hi.o;have x4:=X4.q Hi.o;refine aI rfl fun K' hK=>?_;go_simp;with_reducible refine(C1.o _ _ _ (T1.o.below HI.o.world)).mono ?_
       rintro e W' ⟨fQ,ed,rfl,kV,hb⟩;exact hK.o _ _ ⟨HI.o.pc Hi.o hb ⟨fQ,ed,rfl,kV⟩,trivial⟩
     | 6,_,Hi|7,_,Hi|8,_,Hi =>
       try have x6:=X6.t Hi.o
       try have x7:=X7.t Hi.o
       refine aI rfl fun K' hK=>?_;go_simp;exact hK.o _ _ (HI.o.pw Hi.o)
     | 9,_,Hi =>
       obtain⟨v',x5,fQ,ed,e,kV⟩:=HI.o.at (i:=5) Hi.o (by kernel_rfl) (by decide);obtain rfl:=e;have x5:a.tmps[8]? = some (.agg #[.bool (ai m),.slice fQ (ae m) ed]):=x5;have u0d:=hid kV;clear kV;have x8:=X8.q Hi.o;refine aI rfl fun K' hK=>?_;go_simp;exact hK.o _ _ ⟨HI.o.pv Hi.o ⟨fQ,ed,rfl,u0d.o⟩,trivial⟩
     | n+10,h,_=>exact absurd h (by omega)
   · intro l6 a W HI hD HA
     obtain⟨v',x5,fQ,ed,e,kV⟩:=HI.o.slots 5 (by decide) (HA.o 5 (by decide));obtain rfl:=e;have u0d:=hid kV;clear kV;obtain⟨v',x9,lv,kz,e,wu⟩:=HI.o.slots 9 (by decide) (HA.o 9 (by decide));obtain rfl:=e;have u02:=hid wu;clear wu;have x9:a.tmps[12]? = some (.agg #[.bool (ai m),.slice lv (ae m) kz,.slice p1 (ae n) c1]):=x9;have wo:=hid HI.o.world;obtain ⟨K2,R1⟩:=aU wo.o K2 R1;have lg:=Lib.hid (wm.o.trans (wo.o.mono wm.o.size));have RM:=u0d;have RMb:=u02;have y2:=HI.o.rst 2 rfl;obtain ⟨u00,u01,gy⟩:=aQ K2.o rfl rfl rfl;obtain ⟨u0A,u0B,u0C⟩:=bZ K2.o;refine aY (t:=0) ?_;refine aI rfl fun K' hK=>?_;go_simp;refine hK.o _ _ ?_;clear hK;refine bH ?_;have s0:∀ {v':Value} {n':Nat},RN W v' n'→RN (storeAll W (w.heap.size+1) 0 [.bool (ai m),.slice lv (ae m) kz,.slice p1 (ae n) c1]) v' n':=fun h'=>bB _ h' K2.o (by simp[bQ]) (by simp[bi]);exact⟨rfl,fQ,ed,lv,kz,(HI.o.finx ⟨HI.o.sx HA.o 0,HI.o.sx HA.o 1,HI.o.sx HA.o 2,HI.o.sx HA.o 3,HI.o.sx HA.o 4,x5,HI.o.sx HA.o 6,HI.o.sx HA.o 7,HI.o.sx HA.o 8,x9,trivial⟩ rfl),(ax (l:=[.bool (ai m),.slice lv (ae m) kz,.slice p1 (ae n) c1]) (i:=0) (by omega) lg.o),(dm (l:=[.bool (ai m),.slice lv (ae m) kz,.slice p1 (ae n) c1]) (i:=0) K2.o),(s0 R1.o),(s0 RMb.o)⟩
 rintro a' W1 ⟨fQ,ed,lv,kz,rfl,z0,z1,z2,z3⟩;obtain ⟨r9,K2,R1,RMb⟩:=aJ z0 z1 z2 z3;clear z0 z1 z2 z3;simp only[putL,List.setIfInBounds_toArray,List.set_cons_zero,List.set_cons_succ];go_wp2;obtain ⟨u00,u01,gy⟩:=aQ K2.o rfl rfl rfl;exact bodyPost_ret (v:=.agg #[.bool (ai m),.slice lv (ae m) kz,.slice p1 (ae n) c1]) (by simp[results,results70,go_sem,u00,u01,gy]) rfl ⟨_,_,_,_,rfl,RMb.o,R1.o,r9.o⟩
theorem zN (n s:Int)(en:Nat)(p1:Option Addr)(c1:Nat)(s1:Option Addr)(d1:Nat)(w:World)(h1:∀ p1 c1 W,RN W (.slice p1 (ae n) c1) n.natAbs→CR 103 #[.agg #[.bool (ai n),.slice p1 (ae n) c1]] W (.int .i64 s))(r1:RN w (.slice p1 (ae n) c1) n.natAbs)(t1:RN w (.slice s1 (ag en) d1) en) :
 CR 69 #[.agg #[.bool (ai n),.slice p1 (ae n) c1,.slice s1 (ag en) d1]] w (.int .i64 s):=by
 obtain ⟨C1,R1,T1⟩:=ak h1 r1 t1;clear h1 r1 t1;go_enter func69,ntmps69
 go_upto_region 1 with fail
 refine ay w [(#[.bool (ai n),.slice p1 (ae n) c1,.slice s1 (ag en) d1],54)] rfl ?_;rintro W0 ⟨k1,hb⟩;have wm:=hid (show Below w.heap.size w W0 from hb);have R1:=hid (R1.o.below wm.o);have K1:=hid k1;clear k1 hb;obtain ⟨bV,af⟩:=av K1.o rfl rfl;go_wp2_with fail
 with_reducible refine(C1.o _ _ _ R1.o).mono ?_
 rintro e W1 ⟨rfl,hb⟩;clear bV af;have r9:=hbt wm hb;clear hb;go_wp2;exact bodyPost_ret (v:=.int .i64 s) (by simp[results,results69,go_sem]) rfl ⟨rfl,r9.o⟩
theorem z1w (n1 n2 z n:Int)(en1 en2 en dn:Nat)(p1:Option Addr)(c1:Nat)(s1:Option Addr)(d1:Nat)(p2:Option Addr)(c2:Nat)(s2:Option Addr)(d2:Nat)(w:World)(h1:∀ p1 c1 p2 c2 W,RN W (.slice p1 (ae n1) c1) n1.natAbs→RN W (.slice p2 (ae n2) c2) n2.natAbs→CZ 73 #[.agg #[.bool (ai n1),.slice p1 (ae n1) c1],.agg #[.bool (ai n2),.slice p2 (ae n2) c2]] W z)(h2:∀ s1 d1 s2 d2 W,RN W (.slice s1 (ag en1) d1) en1→RN W (.slice s2 (ag en2) d2) en2→CN 74 #[.slice s1 (ag en1) d1,.slice s2 (ag en2) d2] W en)(h3:∀ p1 c1 s2 d2 W,RN W (.slice p1 (ae z) c1) z.natAbs→RN W (.slice s2 (ag en) d2) en→CF 72 #[.agg #[.bool (ai z),.slice p1 (ae z) c1],.slice s2 (ag en) d2] W n dn)(r1:RN w (.slice p1 (ae n1) c1) n1.natAbs)(t1:RN w (.slice s1 (ag en1) d1) en1)(r2:RN w (.slice p2 (ae n2) c2) n2.natAbs)(t2:RN w (.slice s2 (ag en2) d2) en2) :
 CF 49 #[.agg #[.bool (ai n1),.slice p1 (ae n1) c1,.slice s1 (ag en1) d1],.agg #[.bool (ai n2),.slice p2 (ae n2) c2,.slice s2 (ag en2) d2]] w n dn:=by
 obtain ⟨C1,C2,C3,R1,T1,R2,T2⟩:=dC h1 h2 h3 r1 t1 r2 t2;clear h1 h2 h3 r1 t1 r2 t2;go_enter func49,ntmps49
 go_upto_region 1 with fail
 refine ay w [(#[.bool (ai n1),.slice p1 (ae n1) c1,.slice s1 (ag en1) d1],54),(#[.bool (ai n2),.slice p2 (ae n2) c2,.slice s2 (ag en2) d2],54),(#[.bool false,.slice none 0 0,.slice none 0 0],54)] rfl ?_;rintro W0 ⟨k1,k2,k3,hb⟩;have wm:=hid (show Below w.heap.size w W0 from hb);obtain ⟨R1,T1,R2,T2⟩:=bC wm.o R1 T1 R2 T2;obtain ⟨K1,K2,K3⟩:=ak k1 k2 k3;clear k1 k2 k3 hb;go_wp2_with fail
 refine aG (fun a0 a' V=>∃ dY cO u6 w9 rM rV p8 pq,a'=⟨putL [(5,.pointer (some ⟨w.heap.size,0,none⟩)),(6,.agg #[.bool (ai n1),.slice p1 (ae n1) c1]),(7,.pointer (some ⟨w.heap.size+1,0,none⟩)),(8,.agg #[.bool (ai n2),.slice p2 (ae n2) c2]),(9,.agg #[.bool (ai z),.slice dY (ae z) cO]),(10,.pointer (some ⟨w.heap.size,2,none⟩)),(11,.slice s1 (ag en1) d1),(12,.pointer (some ⟨w.heap.size+1,2,none⟩)),(13,.slice s2 (ag en2) d2),(14,.slice u6 (ag en) w9),(15,.agg #[.bool (ai n),.slice rM (ae n) rV,.slice p8 (ag dn) pq])] a0.tmps,a0.defers⟩∧Below w.heap.size w V∧SBk V (w.heap.size+1+1) #[.bool (ai n),.slice rM (ae n) rV,.slice p8 (ag dn) pq] 54∧RN V (.slice rM (ae n) rV) (n).natAbs∧RN V (.slice p8 (ag dn) pq) (dn)) ?_ ?_
 · refine bN 11 1 [5,6,7,8,9,10,11,12,13,14,15] [Rel.val (.pointer (some ⟨w.heap.size,0,none⟩)),Rel.val (.agg #[.bool (ai n1),.slice p1 (ae n1) c1]),Rel.val (.pointer (some ⟨w.heap.size+1,0,none⟩)),Rel.val (.agg #[.bool (ai n2),.slice p2 (ae n2) c2]),Rel.int z,Rel.val (.pointer (some ⟨w.heap.size,2,none⟩)),Rel.val (.slice s1 (ag en1) d1),Rel.val (.pointer (some ⟨w.heap.size+1,2,none⟩)),Rel.val (.slice s2 (ag en2) d2),Rel.nat en,⟨fun v W=>∃ p c s d,v=.agg #[.bool (ai n),.slice p (ae n) c,.slice s (ag dn) d]∧RN W (.slice p (ae n) c) (n).natAbs∧RN W (.slice s (ag dn) d) (dn),fun _ _ _ ⟨p,c,s,d,e,h0,h1⟩ hb=>⟨p,c,s,d,e,h0.below hb,h1.below hb⟩⟩] ?_ ?_
   · intro l6 a W i HI hD Hr him
     obtain⟨y2,y3⟩:=HI.o.s2 2 3;obtain ⟨bV,af⟩:=av (K1.o.below HI.o.world) rfl rfl;obtain ⟨u00,u01⟩:=av (K2.o.below HI.o.world) rfl rfl;have dX:=(K1.o.below HI.o.world).cell (i:=2) rfl;have gy:=(K2.o.below HI.o.world).cell (i:=2) rfl;obtain⟨X0,X2,X1,X3,X5,X7⟩:=HI.o.g6 0 5 2 7 1 6 3 8 5 10 7 12;obtain⟨X6,X8⟩:=HI.o.g2 6 11 8 13
     match i,him,Hr with
     | 0,_,Hi|1,_,Hi|2,_,Hi|3,_,Hi =>
       try have x0:=X0.t Hi.o
       try have x2:=X2.t Hi.o
       refine aI rfl fun K' hK=>?_;go_simp;exact hK.o _ _ (HI.o.pw Hi.o)
     | 4,_,Hi =>
       have x1:=X1.q Hi.o;have x3:=X3.q Hi.o;refine aI rfl fun K' hK=>?_;go_simp;with_reducible refine(C1.o _ _ _ _ _ (R1.o.below HI.o.world) (R2.o.below HI.o.world)).mono ?_
       rintro e W' ⟨dY,cO,rfl,u03,hb⟩;exact hK.o _ _ ⟨HI.o.pc Hi.o hb ⟨dY,cO,rfl,u03⟩,trivial⟩
     | 5,_,Hi|6,_,Hi|7,_,Hi|8,_,Hi =>
       try have x5:=X5.t Hi.o
       try have x7:=X7.t Hi.o
       refine aI rfl fun K' hK=>?_;go_simp;exact hK.o _ _ (HI.o.pw Hi.o)
     | 9,_,Hi =>
       have x6:=X6.q Hi.o;have x8:=X8.q Hi.o;refine aI rfl fun K' hK=>?_;go_simp;with_reducible refine(C2.o _ _ _ _ _ (T1.o.below HI.o.world) (T2.o.below HI.o.world)).mono ?_
       rintro e W' ⟨u6,w9,rfl,wu,hb⟩;exact hK.o _ _ ⟨HI.o.pc Hi.o hb ⟨u6,w9,rfl,wu⟩,trivial⟩
     | 10,_,Hi =>
       obtain⟨v',x4,dY,cO,e,u03⟩:=HI.o.at (i:=4) Hi.o (by kernel_rfl) (by decide);obtain rfl:=e;have x4:a.tmps[9]? = some (.agg #[.bool (ai z),.slice dY (ae z) cO]):=x4;have u0p:=hid u03;clear u03;obtain⟨v',x9,u6,w9,e,wu⟩:=HI.o.at (i:=9) Hi.o (by kernel_rfl) (by decide);obtain rfl:=e;have x9:a.tmps[14]? = some (.slice u6 (ag en) w9):=x9;have u02:=hid wu;clear wu;refine aI rfl fun K' hK=>?_;go_simp;with_reducible refine(C3.o _ _ _ _ _ u0p.o u02.o).mono ?_
       rintro e W' ⟨rM,rV,p8,pq,rfl,u04,u05,hb⟩;exact hK.o _ _ ⟨HI.o.pc Hi.o hb ⟨rM,rV,p8,pq,rfl,u04,u05⟩,trivial⟩
     | n+11,h,_=>exact absurd h (by omega)
   · intro l6 a W HI hD HA
     obtain⟨v',x4,dY,cO,e,u03⟩:=HI.o.slots 4 (by decide) (HA.o 4 (by decide));obtain rfl:=e;have u0p:=hid u03;clear u03;obtain⟨v',x9,u6,w9,e,wu⟩:=HI.o.slots 9 (by decide) (HA.o 9 (by decide));obtain rfl:=e;have u02:=hid wu;clear wu;obtain⟨v',x10,rM,rV,p8,pq,e,u04,u05⟩:=HI.o.slots 10 (by decide) (HA.o 10 (by decide));obtain rfl:=e;have u06:=hid u04;clear u04;have u0q:=hid u05;clear u05;have x10:a.tmps[15]? = some (.agg #[.bool (ai n),.slice rM (ae n) rV,.slice p8 (ag dn) pq]):=x10;have wo:=hid HI.o.world;obtain ⟨lg,K3⟩:=aB (wm.o.trans (wo.o.mono wm.o.size)) (K3.o.below wo.o);have RZ:=u0p;have RE:=u02;have RQ:=u06;have TQ:=u0q;have y4:=HI.o.rst 4 rfl;obtain ⟨u0e,u0f,u0g⟩:=aQ K3.o rfl rfl rfl;obtain ⟨u0D,u0E,u0F⟩:=bZ K3.o;refine aY (t:=0) ?_;refine aI rfl fun K' hK=>?_;go_simp;refine hK.o _ _ ?_;clear hK;refine bH ?_;have s0:∀ {v':Value} {n':Nat},RN W v' n'→RN (storeAll W (w.heap.size+1+1) 0 [.bool (ai n),.slice rM (ae n) rV,.slice p8 (ag dn) pq]) v' n':=fun h'=>bB _ h' K3.o (by simp[bQ]) (by simp[bi]);exact⟨rfl,dY,cO,u6,w9,rM,rV,p8,pq,(HI.o.finx ⟨HI.o.sx HA.o 0,HI.o.sx HA.o 1,HI.o.sx HA.o 2,HI.o.sx HA.o 3,x4,HI.o.sx HA.o 5,HI.o.sx HA.o 6,HI.o.sx HA.o 7,HI.o.sx HA.o 8,x9,x10,trivial⟩ rfl),(ax (l:=[.bool (ai n),.slice rM (ae n) rV,.slice p8 (ag dn) pq]) (i:=0) (by omega) lg.o),(dm (l:=[.bool (ai n),.slice rM (ae n) rV,.slice p8 (ag dn) pq]) (i:=0) K3.o),(s0 RQ.o),(s0 TQ.o)⟩
 rintro a' W1 ⟨dY,cO,u6,w9,rM,rV,p8,pq,rfl,z0,z1,z2,z3⟩;obtain ⟨r9,K3,RQ,TQ⟩:=aJ z0 z1 z2 z3;clear z0 z1 z2 z3;simp only[putL,List.setIfInBounds_toArray,List.set_cons_zero,List.set_cons_succ];go_wp2;obtain ⟨u0e,u0f,u0g⟩:=aQ K3.o rfl rfl rfl;exact bodyPost_ret (v:=.agg #[.bool (ai n),.slice rM (ae n) rV,.slice p8 (ag dn) pq]) (by simp[results,results49,go_sem,u0e,u0f,u0g]) rfl ⟨_,_,_,_,rfl,RQ.o,TQ.o,r9.o⟩
open Go.Lib (hid)
theorem xS (n1 n2 x y z n k:Int)(en1 en2 en dn ua ub:Nat)(hk:k≠0)(p1:Option Addr)(c1:Nat)(s1:Option Addr)(d1:Nat)(p2:Option Addr)(c2:Nat)(s2:Option Addr)(d2:Nat)(w:World)(h0:∀ s1 d1 s2 d2 W,RN W (.slice s1 (ag en1) d1) en1→RN W (.slice s2 (ag en2) d2) en2→CR 101 #[.slice s1 (ag en1) d1,.slice s2 (ag en2) d2] W (.int .i64 k))(h1:∀ p1 c1 s2 d2 W,RN W (.slice p1 (ae n1) c1) n1.natAbs→RN W (.slice s2 (ag en2) d2) en2→CN 74 #[.slice p1 (ae n1) c1,.slice s2 (ag en2) d2] W ua)(h2:∀ s2 d2 W,RN W (.slice s2 (ag ua) d2) ua→CZ 77 #[.bool (ai n1),.slice s2 (ag ua) d2] W x)(h3:∀ p1 c1 s2 d2 W,RN W (.slice p1 (ae n2) c1) n2.natAbs→RN W (.slice s2 (ag en1) d2) en1→CN 74 #[.slice p1 (ae n2) c1,.slice s2 (ag en1) d2] W ub)(h4:∀ s2 d2 W,RN W (.slice s2 (ag ub) d2) ub→CZ 77 #[.bool (ai n2),.slice s2 (ag ub) d2] W y)(h5:∀ p1 c1 p2 c2 W,RN W (.slice p1 (ae x) c1) x.natAbs→RN W (.slice p2 (ae y) c2) y.natAbs→CZ 102 #[.agg #[.bool (ai x),.slice p1 (ae x) c1],.agg #[.bool (ai y),.slice p2 (ae y) c2]] W z)(h6:∀ s1 d1 s2 d2 W,RN W (.slice s1 (ag en1) d1) en1→RN W (.slice s2 (ag en2) d2) en2→CN 74 #[.slice s1 (ag en1) d1,.slice s2 (ag en2) d2] W en)(h7:∀ p1 c1 s2 d2 W,RN W (.slice p1 (ae z) c1) z.natAbs→RN W (.slice s2 (ag en) d2) en→CF 72 #[.agg #[.bool (ai z),.slice p1 (ae z) c1],.slice s2 (ag en) d2] W n dn)(r1:RN w (.slice p1 (ae n1) c1) n1.natAbs)(t1:RN w (.slice s1 (ag en1) d1) en1)(r2:RN w (.slice p2 (ae n2) c2) n2.natAbs)(t2:RN w (.slice s2 (ag en2) d2) en2) :
 CF 66 #[.agg #[.bool (ai n1),.slice p1 (ae n1) c1,.slice s1 (ag en1) d1],.agg #[.bool (ai n2),.slice p2 (ae n2) c2,.slice s2 (ag en2) d2]] w n dn:=by
 obtain ⟨C0,C1,C2,C3,C4,C5,C6,C7,R1⟩:=d9 h0 h1 h2 h3 h4 h5 h6 h7 r1;obtain ⟨T1,R2,T2⟩:=ak t1 r2 t2;have k0:(k==0)=false:=by rw[beq_eq_false_iff_ne];exact hk
 have k1:¬ k=0:=hk;clear hk h0 h1 h2 h3 h4 h5 h6 h7 r1 t1 r2 t2;go_enter func66,ntmps66
 go_upto_region 1 with fail
 refine ay w [(#[.bool (ai n1),.slice p1 (ae n1) c1,.slice s1 (ag en1) d1],54),(#[.bool (ai n2),.slice p2 (ae n2) c2,.slice s2 (ag en2) d2],54),(#[.bool false,.slice none 0 0,.slice none 0 0],54)] rfl ?_;rintro W0 ⟨k1,k2,k3,hb⟩;have wm:=hid (show Below w.heap.size w W0 from hb);obtain ⟨R1,T1,R2,T2⟩:=bC wm.o R1 T1 R2 T2;obtain ⟨K1,K2,K3⟩:=ak k1 k2 k3;clear k1 k2 k3 hb;have dX:=K1.o.cell (i:=2) rfl;have gy:=K2.o.cell (i:=2) rfl;go_wp2_with fail
 with_reducible refine(C0.o _ _ _ _ _ T1.o T2.o).mono ?_
 rintro e W1 ⟨rfl,hb⟩;clear dX gy;obtain ⟨K1,K2,K3,R1,T1,R2,T2⟩:=eY hb K1 K2 K3 R1 T1 R2 T2;have r9:=hbt wm hb;clear hb;go_wp2_with fail
 have L1:=K1.o.lt;have L2:=K2.o.lt;have L3:=K3.o.lt;have L4:=r9.o.size;refine aG (fun a0 a' V=>∃ dx dz u6 w9 mf,a'=⟨putL [(21,.pointer (some ⟨w.heap.size,0,none⟩)),(22,.pointer (some ⟨w.heap.size,0,none⟩)),(23,.bool (ai n1)),(24,.pointer (some ⟨w.heap.size,0,none⟩)),(25,.pointer (some ⟨w.heap.size,1,none⟩)),(26,.slice p1 (ae n1) c1),(27,.pointer (some ⟨w.heap.size+1,2,none⟩)),(28,.slice s2 (ag en2) d2),(29,.slice dx (ag ua) dz),(30,.agg #[.bool (ai x),.slice u6 (ae x) w9]),(5,.pointer (some ⟨mf,0,none⟩))] a0.tmps,a0.defers⟩∧Below w.heap.size w V∧SBk V (w.heap.size) #[.bool (ai n1),.slice p1 (ae n1) c1,.slice s1 (ag en1) d1] 54∧SBk V (w.heap.size+1) #[.bool (ai n2),.slice p2 (ae n2) c2,.slice s2 (ag en2) d2] 54∧SBk V (w.heap.size+1+1) #[.bool false,.slice none 0 0,.slice none 0 0] 54∧SBk V (mf) #[.bool (ai x),.slice u6 (ae x) w9] 52∧RN V (.slice p1 (ae n1) c1) n1.natAbs∧RN V (.slice s1 (ag en1) d1) en1∧RN V (.slice p2 (ae n2) c2) n2.natAbs∧RN V (.slice s2 (ag en2) d2) en2∧RN V (.slice dx (ag ua) dz) ua∧RN V (.slice u6 (ae x) w9) x.natAbs∧W1.heap.size≤mf) ?_ ?_
 · refine bN 11 1 [21,22,23,24,25,26,27,28,29,30,5] [Rel.val (.pointer (some ⟨w.heap.size,0,none⟩)),Rel.val (.pointer (some ⟨w.heap.size,0,none⟩)),Rel.val (.bool (ai n1)),Rel.val (.pointer (some ⟨w.heap.size,0,none⟩)),Rel.val (.pointer (some ⟨w.heap.size,1,none⟩)),Rel.val (.slice p1 (ae n1) c1),Rel.val (.pointer (some ⟨w.heap.size+1,2,none⟩)),Rel.val (.slice s2 (ag en2) d2),Rel.nat ua,Rel.int x,Rel.ptr W1.heap.size (.cells #[.bool false,.slice none 0 0] 52)] ?_ ?_
   · intro l6 a W i HI hD Hr him
     obtain⟨y2,y3⟩:=HI.o.s2 2 3;obtain ⟨bV,af⟩:=av (K1.o.below HI.o.world) rfl rfl;have gy:=(K2.o.below HI.o.world).cell (i:=2) rfl;obtain⟨X0,X1,X3,X4,X6,X5⟩:=HI.o.g6 0 21 1 22 3 24 4 25 6 27 5 26;obtain⟨X7,X2⟩:=HI.o.g2 7 28 2 23
     match i,him,Hr with
     | 0,_,Hi|1,_,Hi|2,_,Hi|3,_,Hi|4,_,Hi|5,_,Hi|6,_,Hi|7,_,Hi =>
       try have x0:=X0.t Hi.o
       try have x1:=X1.t Hi.o
       try have x3:=X3.t Hi.o
       try have x4:=X4.t Hi.o
       try have x6:=X6.t Hi.o
       refine aI rfl fun K' hK=>?_;go_simp;exact hK.o _ _ (HI.o.pw Hi.o)
     | 8,_,Hi =>
       have x5:=X5.q Hi.o;have x7:=X7.q Hi.o;refine aI rfl fun K' hK=>?_;go_simp;with_reducible refine(C1.o _ _ _ _ _ (R1.o.below HI.o.world) (T2.o.below HI.o.world)).mono ?_
       rintro e W' ⟨dx,dz,rfl,u07,hb⟩;exact hK.o _ _ ⟨HI.o.pc Hi.o hb ⟨dx,dz,rfl,u07⟩,trivial⟩
     | 9,_,Hi =>
       have x2:=X2.q Hi.o;obtain⟨v',x8,dx,dz,e,u07⟩:=HI.o.at (i:=8) Hi.o (by kernel_rfl) (by decide);obtain rfl:=e;have x8:a.tmps[29]? = some (.slice dx (ag ua) dz):=x8;have u0r:=hid u07;clear u07;refine aI rfl fun K' hK=>?_;go_simp;with_reducible refine(C2.o _ _ _ u0r.o).mono ?_
       rintro e W' ⟨u6,w9,rfl,wu,hb⟩;exact hK.o _ _ ⟨HI.o.pc Hi.o hb ⟨u6,w9,rfl,wu⟩,trivial⟩
     | 10,_,Hi =>
       refine aI rfl fun K' hK=>?_;go_simp;exact hK.o _ _ ⟨HI.o.pc Hi.o ((Below.refl W.heap.size W).alloc (Nat.le_refl _) (.cells #[.bool false,.slice none 0 0] 52)) ⟨W.heap.size,rfl,HI.o.world.size,SBk.new _ _ _⟩,trivial⟩
     | n+11,h,_=>exact absurd h (by omega)
   · intro l6 a W HI hD HA
     obtain⟨v',x8,dx,dz,e,u07⟩:=HI.o.slots 8 (by decide) (HA.o 8 (by decide));obtain rfl:=e;have u0r:=hid u07;clear u07;obtain⟨v',x9,u6,w9,e,wu⟩:=HI.o.slots 9 (by decide) (HA.o 9 (by decide));obtain rfl:=e;have u02:=hid wu;clear wu;have x9:a.tmps[30]? = some (.agg #[.bool (ai x),.slice u6 (ae x) w9]):=x9;obtain⟨v',x10,mf,e,u04,u05⟩:=HI.o.slots 10 (by decide) (HA.o 10 (by decide));obtain rfl:=e;have u06:=hid u04;clear u04;have u0q:=hid u05;clear u05;have x10:a.tmps[5]? = some (.pointer (some ⟨mf,0,none⟩)):=x10;have wo:=hid HI.o.world;obtain ⟨K1,K2,K3,R1,T1,R2,T2⟩:=eY wo.o K1 K2 K3 R1 T1 R2 T2;have lg:=Lib.hid (r9.o.trans (wo.o.mono r9.o.size));have RA:=u0r;have RX:=u02;have K4:Hid (SBk W mf #[.bool false,.slice none 0 0] 52):=u0q;obtain ⟨u0G,u0H⟩:=av K4.o rfl rfl;obtain ⟨u0S,u0T⟩:=bE K4.o;refine aY (t:=0) ?_;refine aI rfl fun K' hK=>?_;go_simp;refine hK.o _ _ ?_;clear hK;refine bH ?_;have s0:∀ {v':Value} {n':Nat},RN W v' n'→RN (storeAll W (mf) 0 [.bool (ai x),.slice u6 (ae x) w9]) v' n':=fun h'=>bB _ h' K4.o (by simp[bQ]) (by simp[bi]);have o0:∀ {g':Nat} {cs':Array Value} {T':TypeId},g'≠mf→SBk W g' cs' T'→SBk (storeAll W (mf) 0 [.bool (ai x),.slice u6 (ae x) w9]) g' cs' T':=fun hg' h'=>aL hg' _ 0 h';exact⟨rfl,dx,dz,u6,w9,mf,(HI.o.finx ⟨HI.o.sx HA.o 0,HI.o.sx HA.o 1,HI.o.sx HA.o 2,HI.o.sx HA.o 3,HI.o.sx HA.o 4,HI.o.sx HA.o 5,HI.o.sx HA.o 6,HI.o.sx HA.o 7,x8,x9,x10,trivial⟩ rfl),(ax (l:=[.bool (ai x),.slice u6 (ae x) w9]) (i:=0) (by have:=u06.o;omega) lg.o),(o0 (by have:=u06.o;omega) K1.o),(o0 (by have:=u06.o;omega) K2.o),(o0 (by have:=u06.o;omega) K3.o),(dm (l:=[.bool (ai x),.slice u6 (ae x) w9]) (i:=0) K4.o),(s0 R1.o),(s0 T1.o),(s0 R2.o),(s0 T2.o),(s0 RA.o),(s0 RX.o),u06.o⟩
 rintro a' W2 ⟨dx,dz,u6,w9,mf,rfl,z0,z1,z2,z3,z4,z5,z6,z7,z8,z9,z10,z11⟩;obtain ⟨HB2,K1,K2,K3,K4,R1,T1,R2,T2⟩:=d9 z0 z1 z2 z3 z4 z5 z6 z7 z8;have RA:=hid z9;have RX:=hid z10;have R10xW2:=z11;clear z0 z1 z2 z3 z4 z5 z6 z7 z8 z9 z10 z11;simp only[putL,List.setIfInBounds_toArray,List.set_cons_zero,List.set_cons_succ];go_wp2_with fail
 have L6:=K1.o.lt;have L7:=K2.o.lt;have L8:=K3.o.lt;have L9:=K4.o.lt;have L10:=HB2.o.size;refine aG (fun a0 a' V=>∃ bg bn ww sw kM,a'=⟨putL [(31,.pointer (some ⟨w.heap.size+1,0,none⟩)),(32,.pointer (some ⟨w.heap.size+1,0,none⟩)),(33,.bool (ai n2)),(34,.pointer (some ⟨w.heap.size+1,0,none⟩)),(35,.pointer (some ⟨w.heap.size+1,1,none⟩)),(36,.slice p2 (ae n2) c2),(37,.pointer (some ⟨w.heap.size,2,none⟩)),(38,.slice s1 (ag en1) d1),(39,.slice bg (ag ub) bn),(40,.agg #[.bool (ai y),.slice ww (ae y) sw]),(6,.pointer (some ⟨kM,0,none⟩))] a0.tmps,a0.defers⟩∧Below w.heap.size w V∧SBk V (w.heap.size) #[.bool (ai n1),.slice p1 (ae n1) c1,.slice s1 (ag en1) d1] 54∧SBk V (w.heap.size+1) #[.bool (ai n2),.slice p2 (ae n2) c2,.slice s2 (ag en2) d2] 54∧SBk V (w.heap.size+1+1) #[.bool false,.slice none 0 0,.slice none 0 0] 54∧SBk V (mf) #[.bool (ai x),.slice u6 (ae x) w9] 52∧SBk V (kM) #[.bool (ai y),.slice ww (ae y) sw] 52∧RN V (.slice s1 (ag en1) d1) en1∧RN V (.slice s2 (ag en2) d2) en2∧RN V (.slice u6 (ae x) w9) x.natAbs∧RN V (.slice ww (ae y) sw) y.natAbs∧W2.heap.size≤kM) ?_ ?_
 · refine bN 11 1 [31,32,33,34,35,36,37,38,39,40,6] [Rel.val (.pointer (some ⟨w.heap.size+1,0,none⟩)),Rel.val (.pointer (some ⟨w.heap.size+1,0,none⟩)),Rel.val (.bool (ai n2)),Rel.val (.pointer (some ⟨w.heap.size+1,0,none⟩)),Rel.val (.pointer (some ⟨w.heap.size+1,1,none⟩)),Rel.val (.slice p2 (ae n2) c2),Rel.val (.pointer (some ⟨w.heap.size,2,none⟩)),Rel.val (.slice s1 (ag en1) d1),Rel.nat ub,Rel.int y,Rel.ptr W2.heap.size (.cells #[.bool false,.slice none 0 0] 52)] ?_ ?_
   · intro l6 a W i HI hD Hr him
     obtain⟨y3,y2⟩:=HI.o.s2 3 2;obtain ⟨u00,u01⟩:=av (K2.o.below HI.o.world) rfl rfl;have dX:=(K1.o.below HI.o.world).cell (i:=2) rfl;obtain⟨X0,X1,X3,X4,X6,X5⟩:=HI.o.g6 0 31 1 32 3 34 4 35 6 37 5 36;obtain⟨X7,X2⟩:=HI.o.g2 7 38 2 33
     match i,him,Hr with
     | 0,_,Hi|1,_,Hi|2,_,Hi|3,_,Hi|4,_,Hi|5,_,Hi|6,_,Hi|7,_,Hi =>
       try have x0:=X0.t Hi.o
       try have x1:=X1.t Hi.o
       try have x3:=X3.t Hi.o
       try have x4:=X4.t Hi.o
       try have x6:=X6.t Hi.o
       refine aI rfl fun K' hK=>?_;go_simp;exact hK.o _ _ (HI.o.pw Hi.o)
     | 8,_,Hi =>
       have x5:=X5.q Hi.o;have x7:=X7.q Hi.o;refine aI rfl fun K' hK=>?_;go_simp;with_reducible refine(C3.o _ _ _ _ _ (R2.o.below HI.o.world) (T1.o.below HI.o.world)).mono ?_
       rintro e W' ⟨bg,bn,rfl,u08,hb⟩;exact hK.o _ _ ⟨HI.o.pc Hi.o hb ⟨bg,bn,rfl,u08⟩,trivial⟩
     | 9,_,Hi =>
       have x2:=X2.q Hi.o;obtain⟨v',x8,bg,bn,e,u08⟩:=HI.o.at (i:=8) Hi.o (by kernel_rfl) (by decide);obtain rfl:=e;have x8:a.tmps[39]? = some (.slice bg (ag ub) bn):=x8;have u0s:=hid u08;clear u08;refine aI rfl fun K' hK=>?_;go_simp;with_reducible refine(C4.o _ _ _ u0s.o).mono ?_
       rintro e W' ⟨ww,sw,rfl,u0l,hb⟩;exact hK.o _ _ ⟨HI.o.pc Hi.o hb ⟨ww,sw,rfl,u0l⟩,trivial⟩
     | 10,_,Hi =>
       refine aI rfl fun K' hK=>?_;go_simp;exact hK.o _ _ ⟨HI.o.pc Hi.o ((Below.refl W.heap.size W).alloc (Nat.le_refl _) (.cells #[.bool false,.slice none 0 0] 52)) ⟨W.heap.size,rfl,HI.o.world.size,SBk.new _ _ _⟩,trivial⟩
     | n+11,h,_=>exact absurd h (by omega)
   · intro l6 a W HI hD HA
     obtain⟨v',x8,bg,bn,e,u08⟩:=HI.o.slots 8 (by decide) (HA.o 8 (by decide));obtain rfl:=e;have u0s:=hid u08;clear u08;obtain⟨v',x9,ww,sw,e,u0l⟩:=HI.o.slots 9 (by decide) (HA.o 9 (by decide));obtain rfl:=e;have u0I:=hid u0l;clear u0l;have x9:a.tmps[40]? = some (.agg #[.bool (ai y),.slice ww (ae y) sw]):=x9;obtain⟨v',x10,kM,e,u0x,u0y⟩:=HI.o.slots 10 (by decide) (HA.o 10 (by decide));obtain rfl:=e;have u0b:=hid u0x;clear u0x;have u0J:=hid u0y;clear u0y;have x10:a.tmps[6]? = some (.pointer (some ⟨kM,0,none⟩)):=x10;have wo:=hid HI.o.world;obtain ⟨K1,K2,K3,K4,T1,T2,RX⟩:=eY wo.o K1 K2 K3 K4 T1 T2 RX;have lg:=Lib.hid (HB2.o.trans (wo.o.mono HB2.o.size));have RB:=u0s;have RY:=u0I;have K5:Hid (SBk W kM #[.bool false,.slice none 0 0] 52):=u0J;obtain ⟨u0K,u0L⟩:=av K5.o rfl rfl;obtain ⟨u0U,u0V⟩:=bE K5.o;refine aY (t:=0) ?_;refine aI rfl fun K' hK=>?_;go_simp;refine hK.o _ _ ?_;clear hK;refine bH ?_;have s0:∀ {v':Value} {n':Nat},RN W v' n'→RN (storeAll W (kM) 0 [.bool (ai y),.slice ww (ae y) sw]) v' n':=fun h'=>bB _ h' K5.o (by simp[bQ]) (by simp[bi]);have o0:∀ {g':Nat} {cs':Array Value} {T':TypeId},g'≠kM→SBk W g' cs' T'→SBk (storeAll W (kM) 0 [.bool (ai y),.slice ww (ae y) sw]) g' cs' T':=fun hg' h'=>aL hg' _ 0 h';exact⟨rfl,bg,bn,ww,sw,kM,(HI.o.finx ⟨HI.o.sx HA.o 0,HI.o.sx HA.o 1,HI.o.sx HA.o 2,HI.o.sx HA.o 3,HI.o.sx HA.o 4,HI.o.sx HA.o 5,HI.o.sx HA.o 6,HI.o.sx HA.o 7,x8,x9,x10,trivial⟩ rfl),(ax (l:=[.bool (ai y),.slice ww (ae y) sw]) (i:=0) (by have:=u0b.o;omega) lg.o),(o0 (by have:=u0b.o;omega) K1.o),(o0 (by have:=u0b.o;omega) K2.o),(o0 (by have:=u0b.o;omega) K3.o),(o0 (by have:=u0b.o;omega) K4.o),(dm (l:=[.bool (ai y),.slice ww (ae y) sw]) (i:=0) K5.o),(s0 T1.o),(s0 T2.o),(s0 RX.o),(s0 RY.o),u0b.o⟩
 rintro a' W3 ⟨bg,bn,ww,sw,kM,rfl,z0,z1,z2,z3,z4,z5,z6,z7,z8,z9,z10⟩;obtain ⟨HB3,K1,K2,K3,K4,K5,T1,T2,RX⟩:=d9 z0 z1 z2 z3 z4 z5 z6 z7 z8;have RY:=hid z9;have R10xW3:=z10;clear z0 z1 z2 z3 z4 z5 z6 z7 z8 z9 z10;simp only[putL,List.setIfInBounds_toArray,List.set_cons_zero,List.set_cons_succ];go_wp2_with fail
 refine aG (fun a0 a' V=>∃ bq bu bv bM ol oM oV ma,a'=⟨putL [(41,.agg #[.bool (ai x),.slice u6 (ae x) w9]),(42,.agg #[.bool (ai y),.slice ww (ae y) sw]),(43,.agg #[.bool (ai z),.slice bq (ae z) bu]),(44,.pointer (some ⟨w.heap.size,2,none⟩)),(45,.slice s1 (ag en1) d1),(46,.pointer (some ⟨w.heap.size+1,2,none⟩)),(47,.slice s2 (ag en2) d2),(48,.slice bv (ag en) bM),(49,.agg #[.bool (ai n),.slice ol (ae n) oM,.slice oV (ag dn) ma])] a0.tmps,a0.defers⟩∧Below w.heap.size w V∧SBk V (w.heap.size+1+1) #[.bool (ai n),.slice ol (ae n) oM,.slice oV (ag dn) ma] 54∧RN V (.slice ol (ae n) oM) (n).natAbs∧RN V (.slice oV (ag dn) ma) (dn)) ?_ ?_
 · refine bN 9 1 [41,42,43,44,45,46,47,48,49] [Rel.val (.agg #[.bool (ai x),.slice u6 (ae x) w9]),Rel.val (.agg #[.bool (ai y),.slice ww (ae y) sw]),Rel.int z,Rel.val (.pointer (some ⟨w.heap.size,2,none⟩)),Rel.val (.slice s1 (ag en1) d1),Rel.val (.pointer (some ⟨w.heap.size+1,2,none⟩)),Rel.val (.slice s2 (ag en2) d2),Rel.nat en,⟨fun v W=>∃ p c s d,v=.agg #[.bool (ai n),.slice p (ae n) c,.slice s (ag dn) d]∧RN W (.slice p (ae n) c) (n).natAbs∧RN W (.slice s (ag dn) d) (dn),fun _ _ _ ⟨p,c,s,d,e,h0,h1⟩ hb=>⟨p,c,s,d,e,h0.below hb,h1.below hb⟩⟩] ?_ ?_
   · intro l6 a W i HI hD Hr him
     obtain⟨y5,y6,y2⟩:=HI.o.s3 5 6 2;have y3:=HI.o.rst 3 rfl;obtain ⟨u0G,u0H⟩:=av (K4.o.below HI.o.world) rfl rfl;obtain ⟨u0K,u0L⟩:=av (K5.o.below HI.o.world) rfl rfl;have dX:=(K1.o.below HI.o.world).cell (i:=2) rfl;have gy:=(K2.o.below HI.o.world).cell (i:=2) rfl;obtain⟨X0,X1,X3,X5,X4,X6⟩:=HI.o.g6 0 41 1 42 3 44 5 46 4 45 6 47
     match i,him,Hr with
     | 0,_,Hi|1,_,Hi =>
       refine aI rfl fun K' hK=>?_;go_simp;exact hK.o _ _ (HI.o.pw Hi.o)
     | 2,_,Hi =>
       have x0:=X0.q Hi.o;have x1:=X1.q Hi.o;refine aI rfl fun K' hK=>?_;go_simp;with_reducible refine(C5.o _ _ _ _ _ (RX.o.below HI.o.world) (RY.o.below HI.o.world)).mono ?_
       rintro e W' ⟨bq,bu,rfl,u09,hb⟩;exact hK.o _ _ ⟨HI.o.pc Hi.o hb ⟨bq,bu,rfl,u09⟩,trivial⟩
     | 3,_,Hi|4,_,Hi|5,_,Hi|6,_,Hi =>
       try have x3:=X3.t Hi.o
       try have x5:=X5.t Hi.o
       refine aI rfl fun K' hK=>?_;go_simp;exact hK.o _ _ (HI.o.pw Hi.o)
     | 7,_,Hi =>
       have x4:=X4.q Hi.o;have x6:=X6.q Hi.o;refine aI rfl fun K' hK=>?_;go_simp;with_reducible refine(C6.o _ _ _ _ _ (T1.o.below HI.o.world) (T2.o.below HI.o.world)).mono ?_
       rintro e W' ⟨bv,bM,rfl,u0a,hb⟩;exact hK.o _ _ ⟨HI.o.pc Hi.o hb ⟨bv,bM,rfl,u0a⟩,trivial⟩
     | 8,_,Hi =>
       obtain⟨v',x2,bq,bu,e,u09⟩:=HI.o.at (i:=2) Hi.o (by kernel_rfl) (by decide);obtain rfl:=e;have x2:a.tmps[43]? = some (.agg #[.bool (ai z),.slice bq (ae z) bu]):=x2;have u0t:=hid u09;clear u09;obtain⟨v',x7,bv,bM,e,u0a⟩:=HI.o.at (i:=7) Hi.o (by kernel_rfl) (by decide);obtain rfl:=e;have x7:a.tmps[48]? = some (.slice bv (ag en) bM):=x7;have u0u:=hid u0a;clear u0a;refine aI rfl fun K' hK=>?_;go_simp;with_reducible refine(C7.o _ _ _ _ _ u0t.o u0u.o).mono ?_
       rintro e W' ⟨ol,oM,oV,ma,rfl,u0m,u0n,hb⟩;exact hK.o _ _ ⟨HI.o.pc Hi.o hb ⟨ol,oM,oV,ma,rfl,u0m,u0n⟩,trivial⟩
     | n+9,h,_=>exact absurd h (by omega)
   · intro l6 a W HI hD HA
     obtain⟨v',x2,bq,bu,e,u09⟩:=HI.o.slots 2 (by decide) (HA.o 2 (by decide));obtain rfl:=e;have u0t:=hid u09;clear u09;obtain⟨v',x7,bv,bM,e,u0a⟩:=HI.o.slots 7 (by decide) (HA.o 7 (by decide));obtain rfl:=e;have u0u:=hid u0a;clear u0a;obtain⟨v',x8,ol,oM,oV,ma,e,u0m,u0n⟩:=HI.o.slots 8 (by decide) (HA.o 8 (by decide));obtain rfl:=e;have u0M:=hid u0m;clear u0m;have u0N:=hid u0n;clear u0n;have x8:a.tmps[49]? = some (.agg #[.bool (ai n),.slice ol (ae n) oM,.slice oV (ag dn) ma]):=x8;have wo:=hid HI.o.world;obtain ⟨lg,K3⟩:=aB (HB3.o.trans (wo.o.mono HB3.o.size)) (K3.o.below wo.o);have RZ:=u0t;have RE:=u0u;have RQ:=u0M;have TQ:=u0N;have y4:=HI.o.rst 4 rfl;obtain ⟨u0e,u0f,u0g⟩:=aQ K3.o rfl rfl rfl;obtain ⟨u0D,u0E,u0F⟩:=bZ K3.o;refine aY (t:=0) ?_;refine aI rfl fun K' hK=>?_;go_simp;refine hK.o _ _ ?_;clear hK;refine bH ?_;have s0:∀ {v':Value} {n':Nat},RN W v' n'→RN (storeAll W (w.heap.size+1+1) 0 [.bool (ai n),.slice ol (ae n) oM,.slice oV (ag dn) ma]) v' n':=fun h'=>bB _ h' K3.o (by simp[bQ]) (by simp[bi]);exact⟨rfl,bq,bu,bv,bM,ol,oM,oV,ma,(HI.o.finx ⟨HI.o.sx HA.o 0,HI.o.sx HA.o 1,x2,HI.o.sx HA.o 3,HI.o.sx HA.o 4,HI.o.sx HA.o 5,HI.o.sx HA.o 6,x7,x8,trivial⟩ rfl),(ax (l:=[.bool (ai n),.slice ol (ae n) oM,.slice oV (ag dn) ma]) (i:=0) (by omega) lg.o),(dm (l:=[.bool (ai n),.slice ol (ae n) oM,.slice oV (ag dn) ma]) (i:=0) K3.o),(s0 RQ.o),(s0 TQ.o)⟩
 rintro a' W4 ⟨bq,bu,bv,bM,ol,oM,oV,ma,rfl,z0,z1,z2,z3⟩;obtain ⟨HB4,K3,RQ,TQ⟩:=aJ z0 z1 z2 z3;clear z0 z1 z2 z3;simp only[putL,List.setIfInBounds_toArray,List.set_cons_zero,List.set_cons_succ];go_wp2;obtain ⟨u0e,u0f,u0g⟩:=aQ K3.o rfl rfl rfl;exact bodyPost_ret (v:=.agg #[.bool (ai n),.slice ol (ae n) oM,.slice oV (ag dn) ma]) (by simp[results,results66,go_sem,u0e,u0f,u0g]) rfl ⟨_,_,_,_,rfl,RQ.o,TQ.o,HB4.o⟩
