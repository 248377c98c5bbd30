/- texts -/
import Derived.Test.YtlgkolkcokaefaaGreatDoorMz28q
open Go.Proofs.Tryz
set_option maxRecDepth 100000
set_option maxHeartbeats 20000000
open Go.Lib (hid)
namespace Go.Proofs.YtlgkolkcokaefaaGreatDoor
open Go.RowKit Go.Gb
theorem z1E (k n:Int)(dn:Nat)  (w:World)(h1:∀ W,CZ 68 #[.int .i64 k] W n)(h2:∀ W,CN 48 #[.int .u32 1] W dn)  :
 CF 45 #[.int .i64 k] w n dn:=by
 have C1:=hid h1;have C2:=hid h2;clear h1 h2;go_enter func45,ntmps45
 go_upto_region 1 with fail
 refine au w [(#[.bool false,.slice none 0 0,.slice none 0 0],53)] rfl ?_;rintro W0 ⟨k1,hb⟩;have HB0:=hid (show Below w.heap.size w W0 from hb);have K1:=hid k1;clear k1 hb;go_wp2_with fail
 with_reducible refine(C1.out _).mono ?_
 rintro e W1 ⟨p_1,c_1,rfl,u0u,hb⟩;have K1:=hid (K1.out.below hb);have HB1:=hbt HB0 hb;have RN1:=hid u0u;clear hb u0u;go_wp2_with fail
 with_reducible refine(C2.out _).mono ?_
 rintro e W2 ⟨p_2,c_2,rfl,u0v,hb⟩;have K1:=hid (K1.out.below hb);have RN1:=hid (RN1.out.below hb);have HB2:=hbt HB1 hb;have RD1:=hid u0v;clear hb u0v;obtain ⟨dK10,dK11,dK12⟩:=ax K1.out rfl rfl rfl;obtain ⟨fK10,fK11,fK12⟩:=aT K1.out;go_wp2;exact bodyPost_ret (v:=.agg #[.bool (ai n),.slice p_1 (aa n) c_1,.slice p_2 (ag dn) c_2]) (by simp[results,results45,go_sem,dK10,dK11,dK12]) rfl ⟨_,_,_,_,rfl,(aZ [.bool (ai n),.slice p_1 (aa n) c_1,.slice p_2 (ag dn) c_2] RN1.out K1.out (by simp[bS]) (by simp[bA])),(aZ [.bool (ai n),.slice p_1 (aa n) c_1,.slice p_2 (ag dn) c_2] RD1.out K1.out (by simp[bS]) (by simp[bA])),(av (l:=[.bool (ai n),.slice p_1 (aa n) c_1,.slice p_2 (ag dn) c_2]) (i:=0) (by omega) HB2.out)⟩
theorem z1B (n m:Int)(en:Nat)(p1:Option Addr)(c1:Nat)(s1:Option Addr)(d1:Nat)(w:World)(h1:∀ p1 c1 W,RN W (.slice p1 (aa n) c1) n.natAbs→CZ 90 #[.agg #[.bool (ai n),.slice p1 (aa n) c1]] W m)(r1:RN w (.slice p1 (aa n) c1) n.natAbs)(t1:RN w (.slice s1 (ag en) d1) en) :
 CF 73 #[.agg #[.bool (ai n),.slice p1 (aa n) c1,.slice s1 (ag en) d1]] w m en:=by
 obtain ⟨C1,R1,T1⟩:=ah h1 r1 t1;clear h1 r1 t1;go_enter func73,ntmps73
 go_upto_region 1 with fail
 refine au w [(#[.bool (ai n),.slice p1 (aa n) c1,.slice s1 (ag en) d1],53),(#[.bool false,.slice none 0 0,.slice none 0 0],53)] rfl ?_;rintro W0 ⟨k1,k2,hb⟩;have HB0:=hid (show Below w.heap.size w W0 from hb);obtain ⟨R1,T1,K1,K2⟩:=aH (R1.out.below HB0.out) (T1.out.below HB0.out) k1 k2;clear k1 k2 hb;go_wp2_with fail
 refine aC (fun a0 a' V=>∃ u0a u0b u04 u05,a'=⟨putL [(3,.pointer (some ⟨w.heap.size,0,none⟩)),(4,.agg #[.bool (ai n),.slice p1 (aa n) c1]),(5,.agg #[.bool (ai m),.slice u0a (aa m) u0b]),(6,.pointer (some ⟨w.heap.size,2,none⟩)),(7,.slice s1 (ag en) d1),(8,.agg #[.bool (ai m),.slice u04 (aa m) u05,.slice s1 (ag en) d1])] a0.tmps,a0.defers⟩∧Below w.heap.size w V∧SBk V (w.heap.size+1) #[.bool (ai m),.slice u04 (aa m) u05,.slice s1 (ag en) d1] 53∧RN V (.slice s1 (ag en) d1) en∧RN V (.slice u04 (aa m) u05) m.natAbs) ?_ ?_
 · refine ay (by kernel_rfl) 6 1 (fun i=>[3,4,5,6,7,8].getD i 0) (RelR [Rel.val (.pointer (some ⟨w.heap.size,0,none⟩)),Rel.val (.agg #[.bool (ai n),.slice p1 (aa n) c1]),Rel.int m,Rel.val (.pointer (some ⟨w.heap.size,2,none⟩)),Rel.val (.slice s1 (ag en) d1),⟨fun v W=>∃ pa ca,v=.agg #[.bool (ai m),.slice pa (aa m) ca,.slice s1 (ag en) d1]∧RN W (.slice pa (aa m) ca) m.natAbs,fun _ _ _ ⟨pa,ca,e,h0⟩ hb=>⟨pa,ca,e,h0.below hb⟩⟩]) (fun W=>Below W0.heap.size W0 W) (fun _ _=>True) (by kernel_rfl) (by kernel_rfl) (by kernel_rfl) trivial (Below.refl _ _).drew ?_ ?_
   · intro ab a W i hI hD hrd him
     obtain ⟨HI,HD,Hr⟩:=ah hI hD hrd;clear hI hrd hD;have y1:a.tmps[1]? = some (.pointer (some ⟨w.heap.size,0,none⟩)):=HI.out.rest 1 (by decide);obtain ⟨dK10,dK11,dK12⟩:=ax (K1.out.below HI.out.world) rfl rfl rfl;have X0:RV _ ab a 0 3 (.pointer (some ⟨w.heap.size,0,none⟩)):=HI.out.rh;have X1:RV _ ab a 1 4 (.agg #[.bool (ai n),.slice p1 (aa n) c1]):=HI.out.rh;have X3:RV _ ab a 3 6 (.pointer (some ⟨w.heap.size,2,none⟩)):=HI.out.rh;have X4:RV _ ab a 4 7 (.slice s1 (ag en) d1):=HI.out.rh
     match i,him,Hr with
     | 0,_,Hi =>
       refine ak rfl fun K' hK=>?_;go_simp;exact hK.out _ _ ⟨HI.out.pv Hi.out rfl,trivial⟩
     | 1,_,Hi =>
       have x0:=X0.g Hi.out (by kernel_rfl);refine ak rfl fun K' hK=>?_;go_simp;exact hK.out _ _ ⟨HI.out.pv Hi.out rfl,trivial⟩
     | 2,_,Hi =>
       have x1:=X1.g Hi.out (by kernel_rfl);refine ak rfl fun K' hK=>?_;go_simp;with_reducible refine(C1.out _ _ _ (R1.out.below HI.out.world)).mono ?_
       rintro e W' ⟨u0a,u0b,rfl,u0i,hb⟩;exact hK.out _ _ ⟨HI.out.pc Hi.out hb ⟨u0a,u0b,rfl,u0i⟩,trivial⟩
     | 3,_,Hi =>
       refine ak rfl fun K' hK=>?_;go_simp;exact hK.out _ _ ⟨HI.out.pv Hi.out rfl,trivial⟩
     | 4,_,Hi =>
       have x3:=X3.g Hi.out (by kernel_rfl);refine ak rfl fun K' hK=>?_;go_simp;exact hK.out _ _ ⟨HI.out.pv Hi.out rfl,trivial⟩
     | 5,_,Hi =>
       obtain⟨v',x2,u0a,u0b,e,u0i⟩:=HI.out.at (i:=2) Hi.out (by kernel_rfl) (by decide);obtain rfl:=e;have x2:a.tmps[5]? = some (.agg #[.bool (ai m),.slice u0a (aa m) u0b]):=x2;have u0s:=hid u0i;clear u0i;have x4:=X4.g Hi.out (by kernel_rfl);refine ak rfl fun K' hK=>?_;go_simp;exact hK.out _ _ ⟨HI.out.pv Hi.out ⟨u0a,u0b,rfl,u0s.out⟩,trivial⟩
     | n+6,h,_=>exact absurd h (by omega)
   · intro ab a W hI hD hall
     obtain⟨v',x2,u0a,u0b,e,u0i⟩:=hI.slots 2 (by decide) (hall 2 (by decide));obtain rfl:=e;have u0s:=hid u0i;clear u0i;obtain⟨v',x5,u04,u05,e,u08⟩:=hI.slots 5 (by decide) (hall 5 (by decide));obtain rfl:=e;have u0k:=hid u08;clear u08;have x5:a.tmps[8]? = some (.agg #[.bool (ai m),.slice u04 (aa m) u05,.slice s1 (ag en) d1]):=x5;obtain ⟨HBW,HI,HA⟩:=ah hI.world hI hall;clear hI hall;obtain ⟨K2,T1,HBX⟩:=ah (K2.out.below HBW.out) (T1.out.below HBW.out) (HB0.out.trans (HBW.out.mono HB0.out.size));have RM:=u0s;have RMb:=u0k;have y2:a.tmps[2]? = some (.pointer (some ⟨w.heap.size+1,0,none⟩)):=HI.out.rest 2 (by decide);obtain ⟨dK20,dK21,dK22⟩:=ax K2.out rfl rfl rfl;obtain ⟨fK20,fK21,fK22⟩:=aT K2.out;refine aS (t:=0) ?_;refine ak rfl fun K' hK=>?_;go_simp;refine hK.out _ _ ?_;clear hK;refine aY ?_;have s0:∀ {v':Value} {n':Nat},RN W v' n'→RN (storeAll W (w.heap.size+1) 0 [.bool (ai m),.slice u04 (aa m) u05,.slice s1 (ag en) d1]) v' n':=fun h'=>aZ _ h' K2.out (by simp[bS]) (by simp[bA]);exact⟨rfl,u0a,u0b,u04,u05,(HI.out.finx ⟨HI.out.sx HA.out 0,HI.out.sx HA.out 1,x2,HI.out.sx HA.out 3,HI.out.sx HA.out 4,x5,trivial⟩ rfl),(av (l:=[.bool (ai m),.slice u04 (aa m) u05,.slice s1 (ag en) d1]) (i:=0) (by omega) HBX.out),(bz (l:=[.bool (ai m),.slice u04 (aa m) u05,.slice s1 (ag en) d1]) (i:=0) K2.out),(s0 T1.out),(s0 RMb.out)⟩
 rintro a' W1 ⟨u0a,u0b,u04,u05,rfl,z0,z1,z2,z3⟩;obtain ⟨HB1,K2,T1,RMb⟩:=aH z0 z1 z2 z3;clear z0 z1 z2 z3;simp only[putL,List.setIfInBounds_toArray,List.set_cons_zero,List.set_cons_succ];go_wp2;obtain ⟨dK20,dK21,dK22⟩:=ax K2.out rfl rfl rfl;exact bodyPost_ret (v:=.agg #[.bool (ai m),.slice u04 (aa m) u05,.slice s1 (ag en) d1]) (by simp[results,results73,go_sem,dK20,dK21,dK22]) rfl ⟨_,_,_,_,rfl,RMb.out,T1.out,HB1.out⟩
theorem z1D (n m:Int)(en:Nat)(p1:Option Addr)(c1:Nat)(s1:Option Addr)(d1:Nat)(w:World)(h1:∀ s2 d2 W,RN W (.slice s2 (ag en) d2) en→CZ 87 #[.bool (ai n),.slice s2 (ag en) d2] W m)(r1:RN w (.slice p1 (aa n) c1) n.natAbs)(t1:RN w (.slice s1 (ag en) d1) en) :
 Calls Tryz.prog 97 #[.agg #[.bool (ai n),.slice p1 (aa n) c1,.slice s1 (ag en) d1]] w fun e w'=>∃ p c s d,e=.returned (.agg #[.bool (ai m),.slice p (aa m) c,.slice s (ag n.natAbs) d])∧RN w' (.slice p (aa m) c) m.natAbs∧RN w' (.slice s (ag n.natAbs) d) n.natAbs∧Below w.heap.size w w':=by
 obtain ⟨C1,R1,T1⟩:=ah h1 r1 t1;clear h1 r1 t1;go_enter func97,ntmps97
 go_upto_region 1 with fail
 refine au w [(#[.bool (ai n),.slice p1 (aa n) c1,.slice s1 (ag en) d1],53),(#[.bool false,.slice none 0 0,.slice none 0 0],53)] rfl ?_;rintro W0 ⟨k1,k2,hb⟩;have HB0:=hid (show Below w.heap.size w W0 from hb);obtain ⟨R1,T1,K1,K2⟩:=aH (R1.out.below HB0.out) (T1.out.below HB0.out) k1 k2;clear k1 k2 hb;go_wp2_with fail
 refine aC (fun a0 a' V=>∃ u0c u0d u06 u07,a'=⟨putL [(3,.pointer (some ⟨w.heap.size,0,none⟩)),(4,.pointer (some ⟨w.heap.size,0,none⟩)),(5,.bool (ai n)),(6,.pointer (some ⟨w.heap.size,2,none⟩)),(7,.slice s1 (ag en) d1),(8,.agg #[.bool (ai m),.slice u0c (aa m) u0d]),(9,.pointer (some ⟨w.heap.size,0,none⟩)),(10,.pointer (some ⟨w.heap.size,1,none⟩)),(11,.slice p1 (aa n) c1),(12,.agg #[.bool (ai m),.slice u06 (aa m) u07,.slice p1 (aa n) c1])] a0.tmps,a0.defers⟩∧Below w.heap.size w V∧SBk V (w.heap.size+1) #[.bool (ai m),.slice u06 (aa m) u07,.slice p1 (aa n) c1] 53∧RN V (.slice p1 (aa n) c1) n.natAbs∧RN V (.slice u06 (aa m) u07) m.natAbs) ?_ ?_
 · refine ay (by kernel_rfl) 10 1 (fun i=>[3,4,5,6,7,8,9,10,11,12].getD i 0) (RelR [Rel.val (.pointer (some ⟨w.heap.size,0,none⟩)),Rel.val (.pointer (some ⟨w.heap.size,0,none⟩)),Rel.val (.bool (ai n)),Rel.val (.pointer (some ⟨w.heap.size,2,none⟩)),Rel.val (.slice s1 (ag en) d1),Rel.int m,Rel.val (.pointer (some ⟨w.heap.size,0,none⟩)),Rel.val (.pointer (some ⟨w.heap.size,1,none⟩)),Rel.val (.slice p1 (aa n) c1),⟨fun v W=>∃ pa ca,v=.agg #[.bool (ai m),.slice pa (aa m) ca,.slice p1 (aa n) c1]∧RN W (.slice pa (aa m) ca) m.natAbs,fun _ _ _ ⟨pa,ca,e,h0⟩ hb=>⟨pa,ca,e,h0.below hb⟩⟩]) (fun W=>Below W0.heap.size W0 W) (fun _ _=>True) (by kernel_rfl) (by kernel_rfl) (by kernel_rfl) trivial (Below.refl _ _).drew ?_ ?_
   · intro ab a W i hI hD hrd him
     obtain ⟨HI,HD,Hr⟩:=ah hI hD hrd;clear hI hrd hD;have y1:a.tmps[1]? = some (.pointer (some ⟨w.heap.size,0,none⟩)):=HI.out.rest 1 (by decide);have dK10:=(K1.out.below HI.out.world).cell (i:=0) rfl;have dK12:=(K1.out.below HI.out.world).cell (i:=2) rfl;have dK11:=(K1.out.below HI.out.world).cell (i:=1) rfl;have X0:RV _ ab a 0 3 (.pointer (some ⟨w.heap.size,0,none⟩)):=HI.out.rh;have X1:RV _ ab a 1 4 (.pointer (some ⟨w.heap.size,0,none⟩)):=HI.out.rh;have X3:RV _ ab a 3 6 (.pointer (some ⟨w.heap.size,2,none⟩)):=HI.out.rh;have X2:RV _ ab a 2 5 (.bool (ai n)):=HI.out.rh;have X4:RV _ ab a 4 7 (.slice s1 (ag en) d1):=HI.out.rh;have X6:RV _ ab a 6 9 (.pointer (some ⟨w.heap.size,0,none⟩)):=HI.out.rh;have X7:RV _ ab a 7 10 (.pointer (some ⟨w.heap.size,1,none⟩)):=HI.out.rh;have X8:RV _ ab a 8 11 (.slice p1 (aa n) c1):=HI.out.rh
     match i,him,Hr with
     | 0,_,Hi =>
       refine ak rfl fun K' hK=>?_;go_simp;exact hK.out _ _ ⟨HI.out.pv Hi.out rfl,trivial⟩
     | 1,_,Hi =>
       have x0:=X0.g Hi.out (by kernel_rfl);refine ak rfl fun K' hK=>?_;go_simp;exact hK.out _ _ ⟨HI.out.pv Hi.out rfl,trivial⟩
     | 2,_,Hi =>
       have x1:=X1.g Hi.out (by kernel_rfl);refine ak rfl fun K' hK=>?_;go_simp;exact hK.out _ _ ⟨HI.out.pv Hi.out rfl,trivial⟩
     | 3,_,Hi =>
       refine ak rfl fun K' hK=>?_;go_simp;exact hK.out _ _ ⟨HI.out.pv Hi.out rfl,trivial⟩
     | 4,_,Hi =>
       have x3:=X3.g Hi.out (by kernel_rfl);refine ak rfl fun K' hK=>?_;go_simp;exact hK.out _ _ ⟨HI.out.pv Hi.out rfl,trivial⟩
     | 5,_,Hi =>
       have x2:=X2.g Hi.out (by kernel_rfl);have x4:=X4.g Hi.out (by kernel_rfl);refine ak rfl fun K' hK=>?_;go_simp;with_reducible refine(C1.out _ _ _ (T1.out.below HI.out.world)).mono ?_
       rintro e W' ⟨u0c,u0d,rfl,u08,hb⟩;exact hK.out _ _ ⟨HI.out.pc Hi.out hb ⟨u0c,u0d,rfl,u08⟩,trivial⟩
     | 6,_,Hi =>
       refine ak rfl fun K' hK=>?_;go_simp;exact hK.out _ _ ⟨HI.out.pv Hi.out rfl,trivial⟩
     | 7,_,Hi =>
       have x6:=X6.g Hi.out (by kernel_rfl);refine ak rfl fun K' hK=>?_;go_simp;exact hK.out _ _ ⟨HI.out.pv Hi.out rfl,trivial⟩
     | 8,_,Hi =>
       have x7:=X7.g Hi.out (by kernel_rfl);refine ak rfl fun K' hK=>?_;go_simp;exact hK.out _ _ ⟨HI.out.pv Hi.out rfl,trivial⟩
     | 9,_,Hi =>
       obtain⟨v',x5,u0c,u0d,e,u08⟩:=HI.out.at (i:=5) Hi.out (by kernel_rfl) (by decide);obtain rfl:=e;have x5:a.tmps[8]? = some (.agg #[.bool (ai m),.slice u0c (aa m) u0d]):=x5;have u0k:=hid u08;clear u08;have x8:=X8.g Hi.out (by kernel_rfl);refine ak rfl fun K' hK=>?_;go_simp;exact hK.out _ _ ⟨HI.out.pv Hi.out ⟨u0c,u0d,rfl,u0k.out⟩,trivial⟩
     | n+10,h,_=>exact absurd h (by omega)
   · intro ab a W hI hD hall
     obtain⟨v',x5,u0c,u0d,e,u08⟩:=hI.slots 5 (by decide) (hall 5 (by decide));obtain rfl:=e;have u0k:=hid u08;clear u08;obtain⟨v',x9,u06,u07,e,u09⟩:=hI.slots 9 (by decide) (hall 9 (by decide));obtain rfl:=e;have u0l:=hid u09;clear u09;have x9:a.tmps[12]? = some (.agg #[.bool (ai m),.slice u06 (aa m) u07,.slice p1 (aa n) c1]):=x9;obtain ⟨HBW,HI,HA⟩:=ah hI.world hI hall;clear hI hall;obtain ⟨K2,R1,HBX⟩:=ah (K2.out.below HBW.out) (R1.out.below HBW.out) (HB0.out.trans (HBW.out.mono HB0.out.size));have RM:=u0k;have RMb:=u0l;have y2:a.tmps[2]? = some (.pointer (some ⟨w.heap.size+1,0,none⟩)):=HI.out.rest 2 (by decide);obtain ⟨dK20,dK21,dK22⟩:=ax K2.out rfl rfl rfl;obtain ⟨fK20,fK21,fK22⟩:=aT K2.out;refine aS (t:=0) ?_;refine ak rfl fun K' hK=>?_;go_simp;refine hK.out _ _ ?_;clear hK;refine aY ?_;have s0:∀ {v':Value} {n':Nat},RN W v' n'→RN (storeAll W (w.heap.size+1) 0 [.bool (ai m),.slice u06 (aa m) u07,.slice p1 (aa n) c1]) v' n':=fun h'=>aZ _ h' K2.out (by simp[bS]) (by simp[bA]);exact⟨rfl,u0c,u0d,u06,u07,(HI.out.finx ⟨HI.out.sx HA.out 0,HI.out.sx HA.out 1,HI.out.sx HA.out 2,HI.out.sx HA.out 3,HI.out.sx HA.out 4,x5,HI.out.sx HA.out 6,HI.out.sx HA.out 7,HI.out.sx HA.out 8,x9,trivial⟩ rfl),(av (l:=[.bool (ai m),.slice u06 (aa m) u07,.slice p1 (aa n) c1]) (i:=0) (by omega) HBX.out),(bz (l:=[.bool (ai m),.slice u06 (aa m) u07,.slice p1 (aa n) c1]) (i:=0) K2.out),(s0 R1.out),(s0 RMb.out)⟩
 rintro a' W1 ⟨u0c,u0d,u06,u07,rfl,z0,z1,z2,z3⟩;obtain ⟨HB1,K2,R1,RMb⟩:=aH z0 z1 z2 z3;clear z0 z1 z2 z3;simp only[putL,List.setIfInBounds_toArray,List.set_cons_zero,List.set_cons_succ];go_wp2;obtain ⟨dK20,dK21,dK22⟩:=ax K2.out rfl rfl rfl;exact bodyPost_ret (v:=.agg #[.bool (ai m),.slice u06 (aa m) u07,.slice p1 (aa n) c1]) (by simp[results,results97,go_sem,dK20,dK21,dK22]) rfl ⟨_,_,_,_,rfl,RMb.out,R1.out,HB1.out⟩
theorem zB (n s:Int)(en:Nat)(p1:Option Addr)(c1:Nat)(s1:Option Addr)(d1:Nat)(w:World)(h1:∀ p1 c1 W,RN W (.slice p1 (aa n) c1) n.natAbs→CR 50 #[.agg #[.bool (ai n),.slice p1 (aa n) c1]] W (.int .i64 s))(r1:RN w (.slice p1 (aa n) c1) n.natAbs)(t1:RN w (.slice s1 (ag en) d1) en) :
 CR 117 #[.agg #[.bool (ai n),.slice p1 (aa n) c1,.slice s1 (ag en) d1]] w (.int .i64 s):=by
 obtain ⟨C1,R1,T1⟩:=ah h1 r1 t1;clear h1 r1 t1;go_enter func117,ntmps117
 go_upto_region 1 with fail
 refine au w [(#[.bool (ai n),.slice p1 (aa n) c1,.slice s1 (ag en) d1],53)] rfl ?_;rintro W0 ⟨k1,hb⟩;have HB0:=hid (show Below w.heap.size w W0 from hb);have R1:=hid (R1.out.below HB0.out);have K1:=hid k1;clear k1 hb;obtain ⟨dK10,dK11⟩:=aI K1.out rfl rfl;go_wp2_with fail
 with_reducible refine(C1.out _ _ _ R1.out).mono ?_
 rintro e W1 ⟨rfl,hb⟩;clear dK10 dK11;have HB1:=hbt HB0 hb;clear hb;go_wp2;exact bodyPost_ret (v:=.int .i64 s) (by simp[results,results117,go_sem]) rfl ⟨rfl,HB1.out⟩
theorem z1C (n1 n2 z n:Int)(en1 en2 en dn:Nat)(p1:Option Addr)(c1:Nat)(s1:Option Addr)(d1:Nat)(p2:Option Addr)(c2:Nat)(s2:Option Addr)(d2:Nat)(w:World)(h1:∀ p1 c1 p2 c2 W,RN W (.slice p1 (aa n1) c1) n1.natAbs→RN W (.slice p2 (aa n2) c2) n2.natAbs→CZ 82 #[.agg #[.bool (ai n1),.slice p1 (aa n1) c1],.agg #[.bool (ai n2),.slice p2 (aa n2) c2]] W z)(h2:∀ s1 d1 s2 d2 W,RN W (.slice s1 (ag en1) d1) en1→RN W (.slice s2 (ag en2) d2) en2→CN 83 #[.slice s1 (ag en1) d1,.slice s2 (ag en2) d2] W en)(h3:∀ p1 c1 s2 d2 W,RN W (.slice p1 (aa z) c1) z.natAbs→RN W (.slice s2 (ag en) d2) en→CF 81 #[.agg #[.bool (ai z),.slice p1 (aa z) c1],.slice s2 (ag en) d2] W n dn)(r1:RN w (.slice p1 (aa n1) c1) n1.natAbs)(t1:RN w (.slice s1 (ag en1) d1) en1)(r2:RN w (.slice p2 (aa n2) c2) n2.natAbs)(t2:RN w (.slice s2 (ag en2) d2) en2) :
 CF 61 #[.agg #[.bool (ai n1),.slice p1 (aa n1) c1,.slice s1 (ag en1) d1],.agg #[.bool (ai n2),.slice p2 (aa n2) c2,.slice s2 (ag en2) d2]] w n dn:=by
 obtain ⟨C1,C2,C3,R1,T1,R2,T2⟩:=bK h1 h2 h3 r1 t1 r2 t2;clear h1 h2 h3 r1 t1 r2 t2;go_enter func61,ntmps61
 go_upto_region 1 with fail
 refine au w [(#[.bool (ai n1),.slice p1 (aa n1) c1,.slice s1 (ag en1) d1],53),(#[.bool (ai n2),.slice p2 (aa n2) c2,.slice s2 (ag en2) d2],53),(#[.bool false,.slice none 0 0,.slice none 0 0],53)] rfl ?_;rintro W0 ⟨k1,k2,k3,hb⟩;have HB0:=hid (show Below w.heap.size w W0 from hb);obtain ⟨R1,T1,R2,T2,K1,K2,K3⟩:=bK (R1.out.below HB0.out) (T1.out.below HB0.out) (R2.out.below HB0.out) (T2.out.below HB0.out) k1 k2 k3;clear k1 k2 k3 hb;go_wp2_with fail
 refine aC (fun a0 a' V=>∃ u0e u0f u0g u0h u00 u01 u02 u03,a'=⟨putL [(5,.pointer (some ⟨w.heap.size,0,none⟩)),(6,.agg #[.bool (ai n1),.slice p1 (aa n1) c1]),(7,.pointer (some ⟨w.heap.size+1,0,none⟩)),(8,.agg #[.bool (ai n2),.slice p2 (aa n2) c2]),(9,.agg #[.bool (ai z),.slice u0e (aa z) u0f]),(10,.pointer (some ⟨w.heap.size,2,none⟩)),(11,.slice s1 (ag en1) d1),(12,.pointer (some ⟨w.heap.size+1,2,none⟩)),(13,.slice s2 (ag en2) d2),(14,.slice u0g (ag en) u0h),(15,.agg #[.bool (ai n),.slice u00 (aa n) u01,.slice u02 (ag dn) u03])] a0.tmps,a0.defers⟩∧Below w.heap.size w V∧SBk V (w.heap.size+1+1) #[.bool (ai n),.slice u00 (aa n) u01,.slice u02 (ag dn) u03] 53∧RN V (.slice u00 (aa n) u01) (n).natAbs∧RN V (.slice u02 (ag dn) u03) (dn)) ?_ ?_
 · refine ay (by kernel_rfl) 11 1 (fun i=>[5,6,7,8,9,10,11,12,13,14,15].getD i 0) (RelR [Rel.val (.pointer (some ⟨w.heap.size,0,none⟩)),Rel.val (.agg #[.bool (ai n1),.slice p1 (aa n1) c1]),Rel.val (.pointer (some ⟨w.heap.size+1,0,none⟩)),Rel.val (.agg #[.bool (ai n2),.slice p2 (aa n2) c2]),Rel.int z,Rel.val (.pointer (some ⟨w.heap.size,2,none⟩)),Rel.val (.slice s1 (ag en1) d1),Rel.val (.pointer (some ⟨w.heap.size+1,2,none⟩)),Rel.val (.slice s2 (ag en2) d2),Rel.nat en,⟨fun v W=>∃ p c s d,v=.agg #[.bool (ai n),.slice p (aa n) c,.slice s (ag dn) d]∧RN W (.slice p (aa n) c) (n).natAbs∧RN W (.slice s (ag dn) d) (dn),fun _ _ _ ⟨p,c,s,d,e,h0,h1⟩ hb=>⟨p,c,s,d,e,h0.below hb,h1.below hb⟩⟩]) (fun W=>Below W0.heap.size W0 W) (fun _ _=>True) (by kernel_rfl) (by kernel_rfl) (by kernel_rfl) trivial (Below.refl _ _).drew ?_ ?_
   · intro ab a W i hI hD hrd him
     obtain ⟨HI,HD,Hr⟩:=ah hI hD hrd;clear hI hrd hD;have y2:a.tmps[2]? = some (.pointer (some ⟨w.heap.size,0,none⟩)):=HI.out.rest 2 (by decide);have y3:a.tmps[3]? = some (.pointer (some ⟨w.heap.size+1,0,none⟩)):=HI.out.rest 3 (by decide);obtain ⟨dK10,dK11⟩:=aI (K1.out.below HI.out.world) rfl rfl;obtain ⟨dK20,dK21⟩:=aI (K2.out.below HI.out.world) rfl rfl;have dK12:=(K1.out.below HI.out.world).cell (i:=2) rfl;have dK22:=(K2.out.below HI.out.world).cell (i:=2) rfl;have X0:RV _ ab a 0 5 (.pointer (some ⟨w.heap.size,0,none⟩)):=HI.out.rh;have X2:RV _ ab a 2 7 (.pointer (some ⟨w.heap.size+1,0,none⟩)):=HI.out.rh;have X1:RV _ ab a 1 6 (.agg #[.bool (ai n1),.slice p1 (aa n1) c1]):=HI.out.rh;have X3:RV _ ab a 3 8 (.agg #[.bool (ai n2),.slice p2 (aa n2) c2]):=HI.out.rh;have X5:RV _ ab a 5 10 (.pointer (some ⟨w.heap.size,2,none⟩)):=HI.out.rh;have X7:RV _ ab a 7 12 (.pointer (some ⟨w.heap.size+1,2,none⟩)):=HI.out.rh;have X6:RV _ ab a 6 11 (.slice s1 (ag en1) d1):=HI.out.rh;have X8:RV _ ab a 8 13 (.slice s2 (ag en2) d2):=HI.out.rh
     match i,him,Hr with
     | 0,_,Hi =>
       refine ak rfl fun K' hK=>?_;go_simp;exact hK.out _ _ ⟨HI.out.pv Hi.out rfl,trivial⟩
     | 1,_,Hi =>
       have x0:=X0.g Hi.out (by kernel_rfl);refine ak rfl fun K' hK=>?_;go_simp;exact hK.out _ _ ⟨HI.out.pv Hi.out rfl,trivial⟩
     | 2,_,Hi =>
       refine ak rfl fun K' hK=>?_;go_simp;exact hK.out _ _ ⟨HI.out.pv Hi.out rfl,trivial⟩
     | 3,_,Hi =>
       have x2:=X2.g Hi.out (by kernel_rfl);refine ak rfl fun K' hK=>?_;go_simp;exact hK.out _ _ ⟨HI.out.pv Hi.out rfl,trivial⟩
     | 4,_,Hi =>
       have x1:=X1.g Hi.out (by kernel_rfl);have x3:=X3.g Hi.out (by kernel_rfl);refine ak rfl fun K' hK=>?_;go_simp;with_reducible refine(C1.out _ _ _ _ _ (R1.out.below HI.out.world) (R2.out.below HI.out.world)).mono ?_
       rintro e W' ⟨u0e,u0f,rfl,u0j,hb⟩;exact hK.out _ _ ⟨HI.out.pc Hi.out hb ⟨u0e,u0f,rfl,u0j⟩,trivial⟩
     | 5,_,Hi =>
       refine ak rfl fun K' hK=>?_;go_simp;exact hK.out _ _ ⟨HI.out.pv Hi.out rfl,trivial⟩
     | 6,_,Hi =>
       have x5:=X5.g Hi.out (by kernel_rfl);refine ak rfl fun K' hK=>?_;go_simp;exact hK.out _ _ ⟨HI.out.pv Hi.out rfl,trivial⟩
     | 7,_,Hi =>
       refine ak rfl fun K' hK=>?_;go_simp;exact hK.out _ _ ⟨HI.out.pv Hi.out rfl,trivial⟩
     | 8,_,Hi =>
       have x7:=X7.g Hi.out (by kernel_rfl);refine ak rfl fun K' hK=>?_;go_simp;exact hK.out _ _ ⟨HI.out.pv Hi.out rfl,trivial⟩
     | 9,_,Hi =>
       have x6:=X6.g Hi.out (by kernel_rfl);have x8:=X8.g Hi.out (by kernel_rfl);refine ak rfl fun K' hK=>?_;go_simp;with_reducible refine(C2.out _ _ _ _ _ (T1.out.below HI.out.world) (T2.out.below HI.out.world)).mono ?_
       rintro e W' ⟨u0g,u0h,rfl,u09,hb⟩;exact hK.out _ _ ⟨HI.out.pc Hi.out hb ⟨u0g,u0h,rfl,u09⟩,trivial⟩
     | 10,_,Hi =>
       obtain⟨v',x4,u0e,u0f,e,u0j⟩:=HI.out.at (i:=4) Hi.out (by kernel_rfl) (by decide);obtain rfl:=e;have x4:a.tmps[9]? = some (.agg #[.bool (ai z),.slice u0e (aa z) u0f]):=x4;have u0t:=hid u0j;clear u0j;obtain⟨v',x9,u0g,u0h,e,u09⟩:=HI.out.at (i:=9) Hi.out (by kernel_rfl) (by decide);obtain rfl:=e;have x9:a.tmps[14]? = some (.slice u0g (ag en) u0h):=x9;have u0l:=hid u09;clear u09;refine ak rfl fun K' hK=>?_;go_simp;with_reducible refine(C3.out _ _ _ _ _ u0t.out u0l.out).mono ?_
       rintro e W' ⟨u00,u01,u02,u03,rfl,u0q,u0r,hb⟩;exact hK.out _ _ ⟨HI.out.pc Hi.out hb ⟨u00,u01,u02,u03,rfl,u0q,u0r⟩,trivial⟩
     | n+11,h,_=>exact absurd h (by omega)
   · intro ab a W hI hD hall
     obtain⟨v',x4,u0e,u0f,e,u0j⟩:=hI.slots 4 (by decide) (hall 4 (by decide));obtain rfl:=e;have u0t:=hid u0j;clear u0j;obtain⟨v',x9,u0g,u0h,e,u09⟩:=hI.slots 9 (by decide) (hall 9 (by decide));obtain rfl:=e;have u0l:=hid u09;clear u09;obtain⟨v',x10,u00,u01,u02,u03,e,u0q,u0r⟩:=hI.slots 10 (by decide) (hall 10 (by decide));obtain rfl:=e;have u0w:=hid u0q;clear u0q;have u0x:=hid u0r;clear u0r;have x10:a.tmps[15]? = some (.agg #[.bool (ai n),.slice u00 (aa n) u01,.slice u02 (ag dn) u03]):=x10;obtain ⟨HBW,HI,HA⟩:=ah hI.world hI hall;clear hI hall;obtain ⟨K3,HBX⟩:=aD (K3.out.below HBW.out) (HB0.out.trans (HBW.out.mono HB0.out.size));have RZ:=u0t;have RE:=u0l;have RQ:=u0w;have TQ:=u0x;have y4:a.tmps[4]? = some (.pointer (some ⟨w.heap.size+1+1,0,none⟩)):=HI.out.rest 4 (by decide);obtain ⟨dK30,dK31,dK32⟩:=ax K3.out rfl rfl rfl;obtain ⟨fK30,fK31,fK32⟩:=aT K3.out;refine aS (t:=0) ?_;refine ak rfl fun K' hK=>?_;go_simp;refine hK.out _ _ ?_;clear hK;refine aY ?_;have s0:∀ {v':Value} {n':Nat},RN W v' n'→RN (storeAll W (w.heap.size+1+1) 0 [.bool (ai n),.slice u00 (aa n) u01,.slice u02 (ag dn) u03]) v' n':=fun h'=>aZ _ h' K3.out (by simp[bS]) (by simp[bA]);exact⟨rfl,u0e,u0f,u0g,u0h,u00,u01,u02,u03,(HI.out.finx ⟨HI.out.sx HA.out 0,HI.out.sx HA.out 1,HI.out.sx HA.out 2,HI.out.sx HA.out 3,x4,HI.out.sx HA.out 5,HI.out.sx HA.out 6,HI.out.sx HA.out 7,HI.out.sx HA.out 8,x9,x10,trivial⟩ rfl),(av (l:=[.bool (ai n),.slice u00 (aa n) u01,.slice u02 (ag dn) u03]) (i:=0) (by omega) HBX.out),(bz (l:=[.bool (ai n),.slice u00 (aa n) u01,.slice u02 (ag dn) u03]) (i:=0) K3.out),(s0 RQ.out),(s0 TQ.out)⟩
 rintro a' W1 ⟨u0e,u0f,u0g,u0h,u00,u01,u02,u03,rfl,z0,z1,z2,z3⟩;obtain ⟨HB1,K3,RQ,TQ⟩:=aH z0 z1 z2 z3;clear z0 z1 z2 z3;simp only[putL,List.setIfInBounds_toArray,List.set_cons_zero,List.set_cons_succ];go_wp2;obtain ⟨dK30,dK31,dK32⟩:=ax K3.out rfl rfl rfl;exact bodyPost_ret (v:=.agg #[.bool (ai n),.slice u00 (aa n) u01,.slice u02 (ag dn) u03]) (by simp[results,results61,go_sem,dK30,dK31,dK32]) rfl ⟨_,_,_,_,rfl,RQ.out,TQ.out,HB1.out⟩
