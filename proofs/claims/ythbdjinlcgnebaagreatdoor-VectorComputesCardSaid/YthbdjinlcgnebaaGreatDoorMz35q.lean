/- texts -/
import Derived.Test.YthbdjinlcgnebaaGreatDoorMz34q
open Go.Proofs.Tryz
set_option maxRecDepth 100000
set_option maxHeartbeats 20000000
open Go.Lib (hid)
namespace Go.Proofs.YthbdjinlcgnebaaGreatDoor
open Go.RowKit Go.Gb
theorem z1v (k n:Int)(dn:Nat)  (w:World)(h1:∀ W,CZ 83 #[.int .i64 k] W n)(h2:∀ W,CN 65 #[.int .u32 1] W dn)  :
 CF 62 #[.int .i64 k] w n dn:=by
 have C1:=hid h1;have C2:=hid h2;clear h1 h2;go_enter func62,ntmps62
 go_upto_region 1 with fail
 refine ak w [(#[.bool false,.slice none 0 0,.slice none 0 0],61)] rfl ?_;rintro W0 ⟨k1,hb⟩;have u6:=hid (show Below w.heap.size w W0 from hb);have K1:=hid k1;clear k1 hb;go_wp2_with fail
 with_reducible refine(C1.out _).mono ?_
 rintro e W1 ⟨dx,dz,rfl,u01,hb⟩;have K1:=hid (K1.out.below hb);have oM:=hbt u6 hb;have RN1:=hid u01;clear hb u01;go_wp2_with fail
 with_reducible refine(C2.out _).mono ?_
 rintro e W2 ⟨dX,dY,rfl,u02,hb⟩;obtain ⟨K1,RN1⟩:=aO hb K1 RN1;have gy:=hbt oM hb;have RD1:=hid u02;clear hb u02;obtain ⟨mf,mi,l5⟩:=ag K1.out rfl rfl rfl;obtain ⟨u0c,u0d,u0e⟩:=aN K1.out;go_wp2;exact bodyPost_ret (v:=.agg #[.bool (au n),.slice dx (ah n) dz,.slice dX (ai dn) dY]) (by simp[results,results62,go_sem,mf,mi,l5]) rfl ⟨_,_,_,_,rfl,(bB [.bool (au n),.slice dx (ah n) dz,.slice dX (ai dn) dY] RN1.out K1.out (by simp[bZ]) (by simp[bD])),(bB [.bool (au n),.slice dx (ah n) dz,.slice dX (ai dn) dY] RD1.out K1.out (by simp[bZ]) (by simp[bD])),(av (l:=[.bool (au n),.slice dx (ah n) dz,.slice dX (ai dn) dY]) (i:=0) (by omega) gy.out)⟩
theorem z1t (n m:Int)(en:Nat)(p1:Option Addr)(c1:Nat)(s1:Option Addr)(d1:Nat)(w:World)(h1:∀ p1 c1 W,RN W (.slice p1 (ah n) c1) n.natAbs→CZ 108 #[.agg #[.bool (au n),.slice p1 (ah n) c1]] W m)(r1:RN w (.slice p1 (ah n) c1) n.natAbs)(t1:RN w (.slice s1 (ai en) d1) en) :
 CF 81 #[.agg #[.bool (au n),.slice p1 (ah n) c1,.slice s1 (ai en) d1]] w m en:=by
 obtain ⟨C1,R1,T1⟩:=ae h1 r1 t1;clear h1 r1 t1;go_enter func81,ntmps81
 go_upto_region 1 with fail
 refine ak w [(#[.bool (au n),.slice p1 (ah n) c1,.slice s1 (ai en) d1],61),(#[.bool false,.slice none 0 0,.slice none 0 0],61)] rfl ?_;rintro W0 ⟨k1,k2,hb⟩;have u6:=hid (show Below w.heap.size w W0 from hb);obtain ⟨R1,T1⟩:=aO u6.out R1 T1;obtain ⟨K1,K2⟩:=aD k1 k2;clear k1 k2 hb;go_wp2_with fail
 refine aB (fun a0 a' V=>∃ wo wu oV ma,a'=⟨aV [(3,.pointer (some ⟨w.heap.size,0,none⟩)),(4,.agg #[.bool (au n),.slice p1 (ah n) c1]),(5,.agg #[.bool (au m),.slice wo (ah m) wu]),(6,.pointer (some ⟨w.heap.size,2,none⟩)),(7,.slice s1 (ai en) d1),(8,.agg #[.bool (au m),.slice oV (ah m) ma,.slice s1 (ai en) d1])] a0.tmps,a0.defers⟩∧Below w.heap.size w V∧SBk V (w.heap.size+1) #[.bool (au m),.slice oV (ah m) ma,.slice s1 (ai en) d1] 61∧RN V (.slice s1 (ai en) d1) en∧RN V (.slice oV (ah m) ma) m.natAbs) ?_ ?_
 · refine ay (by kernel_rfl) 6 1 (fun i=>[3,4,5,6,7,8].getD i 0) (RelR [Rel.val (.pointer (some ⟨w.heap.size,0,none⟩)),Rel.val (.agg #[.bool (au n),.slice p1 (ah n) c1]),Rel.int m,Rel.val (.pointer (some ⟨w.heap.size,2,none⟩)),Rel.val (.slice s1 (ai en) d1),⟨fun v W=>∃ pa ca,v=.agg #[.bool (au m),.slice pa (ah m) ca,.slice s1 (ai en) d1]∧RN W (.slice pa (ah m) ca) m.natAbs,fun _ _ _ ⟨pa,ca,e,h0⟩ hb=>⟨pa,ca,e,h0.below hb⟩⟩]) (fun W=>Below W0.heap.size W0 W) (fun _ _=>True) (by kernel_rfl) (by kernel_rfl) (by kernel_rfl) trivial (Below.refl _ _).drew ?_ ?_
   · intro w9 a W i hI hD hrd him
     obtain ⟨HI,HD,Hr⟩:=ae hI hD hrd;clear hI hrd hD;have y1:a.tmps[1]? = some (.pointer (some ⟨w.heap.size,0,none⟩)):=HI.out.rest 1 (by decide);obtain ⟨mf,mi,l5⟩:=ag (K1.out.below HI.out.world) rfl rfl rfl;have X0:RV _ w9 a 0 3 (.pointer (some ⟨w.heap.size,0,none⟩)):=HI.out.rh;have X1:RV _ w9 a 1 4 (.agg #[.bool (au n),.slice p1 (ah n) c1]):=HI.out.rh;have X3:RV _ w9 a 3 6 (.pointer (some ⟨w.heap.size,2,none⟩)):=HI.out.rh;have X4:RV _ w9 a 4 7 (.slice s1 (ai en) d1):=HI.out.rh
     match i,him,Hr with
     | 0,_,Hi|1,_,Hi =>
       try have x0:=X0.g Hi.out (by decide +kernel)
       refine ax rfl fun K' hK=>?_;go_simp;exact hK.out _ _ ⟨HI.out.pv Hi.out rfl,trivial⟩
     | 2,_,Hi =>
       have x1:=X1.g Hi.out (by kernel_rfl);refine ax rfl fun K' hK=>?_;go_simp;with_reducible refine(C1.out _ _ _ (R1.out.below HI.out.world)).mono ?_
       rintro e W' ⟨wo,wu,rfl,ww,hb⟩;exact hK.out _ _ ⟨HI.out.pc Hi.out hb ⟨wo,wu,rfl,ww⟩,trivial⟩
     | 3,_,Hi|4,_,Hi =>
       try have x3:=X3.g Hi.out (by decide +kernel)
       refine ax rfl fun K' hK=>?_;go_simp;exact hK.out _ _ ⟨HI.out.pv Hi.out rfl,trivial⟩
     | 5,_,Hi =>
       obtain⟨v',x2,wo,wu,e,ww⟩:=HI.out.at (i:=2) Hi.out (by kernel_rfl) (by decide);obtain rfl:=e;have x2:a.tmps[5]? = some (.agg #[.bool (au m),.slice wo (ah m) wu]):=x2;have kE:=hid ww;clear ww;have x4:=X4.g Hi.out (by kernel_rfl);refine ax rfl fun K' hK=>?_;go_simp;exact hK.out _ _ ⟨HI.out.pv Hi.out ⟨wo,wu,rfl,kE.out⟩,trivial⟩
     | n+6,h,_=>exact absurd h (by omega)
   · intro w9 a W hI hD wy
     obtain⟨v',x2,wo,wu,e,ww⟩:=hI.slots 2 (by decide) (wy 2 (by decide));obtain rfl:=e;have kE:=hid ww;clear ww;obtain⟨v',x5,oV,ma,e,u03⟩:=hI.slots 5 (by decide) (wy 5 (by decide));obtain rfl:=e;have u04:=hid u03;clear u03;have x5:a.tmps[8]? = some (.agg #[.bool (au m),.slice oV (ah m) ma,.slice s1 (ai en) d1]):=x5;obtain ⟨l6,HI,HA⟩:=ae hI.world hI wy;clear hI wy;obtain ⟨K2,T1⟩:=aO l6.out K2 T1;have fq:=Lib.hid (u6.out.trans (l6.out.mono u6.out.size));have RM:=kE;have RMb:=u04;have y2:a.tmps[2]? = some (.pointer (some ⟨w.heap.size+1,0,none⟩)):=HI.out.rest 2 (by decide);obtain ⟨cO,bg,bn⟩:=ag K2.out rfl rfl rfl;obtain ⟨u0f,u0g,u0h⟩:=aN K2.out;refine aL (t:=0) ?_;refine ax rfl fun K' hK=>?_;go_simp;refine hK.out _ _ ?_;clear hK;refine aR ?_;have s0:∀ {v':Value} {n':Nat},RN W v' n'→RN (storeAll W (w.heap.size+1) 0 [.bool (au m),.slice oV (ah m) ma,.slice s1 (ai en) d1]) v' n':=fun h'=>bB _ h' K2.out (by simp[bZ]) (by simp[bD]);exact⟨rfl,wo,wu,oV,ma,(HI.out.finx ⟨HI.out.sx HA.out 0,HI.out.sx HA.out 1,x2,HI.out.sx HA.out 3,HI.out.sx HA.out 4,x5,trivial⟩ rfl),(av (l:=[.bool (au m),.slice oV (ah m) ma,.slice s1 (ai en) d1]) (i:=0) (by omega) fq.out),(bO (l:=[.bool (au m),.slice oV (ah m) ma,.slice s1 (ai en) d1]) (i:=0) K2.out),(s0 T1.out),(s0 RMb.out)⟩
 rintro a' W1 ⟨wo,wu,oV,ma,rfl,z0,z1,z2,z3⟩;obtain ⟨oM,K2,T1,RMb⟩:=aP z0 z1 z2 z3;clear z0 z1 z2 z3;simp only[aV,List.setIfInBounds_toArray,List.set_cons_zero,List.set_cons_succ];go_wp2;obtain ⟨cO,bg,bn⟩:=ag K2.out rfl rfl rfl;exact bodyPost_ret (v:=.agg #[.bool (au m),.slice oV (ah m) ma,.slice s1 (ai en) d1]) (by simp[results,results81,go_sem,cO,bg,bn]) rfl ⟨_,_,_,_,rfl,RMb.out,T1.out,oM.out⟩
theorem z1u (n1 n2 z n:Int)(en1 en2 en dn:Nat)(p1:Option Addr)(c1:Nat)(s1:Option Addr)(d1:Nat)(p2:Option Addr)(c2:Nat)(s2:Option Addr)(d2:Nat)(w:World)(h1:∀ p1 c1 p2 c2 W,RN W (.slice p1 (ah n1) c1) n1.natAbs→RN W (.slice p2 (ah n2) c2) n2.natAbs→CZ 88 #[.agg #[.bool (au n1),.slice p1 (ah n1) c1],.agg #[.bool (au n2),.slice p2 (ah n2) c2]] W z)(h2:∀ s1 d1 s2 d2 W,RN W (.slice s1 (ai en1) d1) en1→RN W (.slice s2 (ai en2) d2) en2→CN 80 #[.slice s1 (ai en1) d1,.slice s2 (ai en2) d2] W en)(h3:∀ p1 c1 s2 d2 W,RN W (.slice p1 (ah z) c1) z.natAbs→RN W (.slice s2 (ai en) d2) en→CF 77 #[.agg #[.bool (au z),.slice p1 (ah z) c1],.slice s2 (ai en) d2] W n dn)(r1:RN w (.slice p1 (ah n1) c1) n1.natAbs)(t1:RN w (.slice s1 (ai en1) d1) en1)(r2:RN w (.slice p2 (ah n2) c2) n2.natAbs)(t2:RN w (.slice s2 (ai en2) d2) en2) :
 CF 69 #[.agg #[.bool (au n1),.slice p1 (ah n1) c1,.slice s1 (ai en1) d1],.agg #[.bool (au n2),.slice p2 (ah n2) c2,.slice s2 (ai en2) d2]] w n dn:=by
 obtain ⟨C1,C2,C3,R1,T1,R2,T2⟩:=fB h1 h2 h3 r1 t1 r2 t2;clear h1 h2 h3 r1 t1 r2 t2;go_enter func69,ntmps69
 go_upto_region 1 with fail
 refine ak w [(#[.bool (au n1),.slice p1 (ah n1) c1,.slice s1 (ai en1) d1],61),(#[.bool (au n2),.slice p2 (ah n2) c2,.slice s2 (ai en2) d2],61),(#[.bool false,.slice none 0 0,.slice none 0 0],61)] rfl ?_;rintro W0 ⟨k1,k2,k3,hb⟩;have u6:=hid (show Below w.heap.size w W0 from hb);obtain ⟨R1,T1,R2,T2⟩:=bi u6.out R1 T1 R2 T2;obtain ⟨K1,K2,K3⟩:=ae k1 k2 k3;clear k1 k2 k3 hb;go_wp2_with fail
 refine aB (fun a0 a' V=>∃ lg lv ky kz wz sw rf rM,a'=⟨aV [(5,.pointer (some ⟨w.heap.size,0,none⟩)),(6,.agg #[.bool (au n1),.slice p1 (ah n1) c1]),(7,.pointer (some ⟨w.heap.size+1,0,none⟩)),(8,.agg #[.bool (au n2),.slice p2 (ah n2) c2]),(9,.agg #[.bool (au z),.slice lg (ah z) lv]),(10,.pointer (some ⟨w.heap.size,2,none⟩)),(11,.slice s1 (ai en1) d1),(12,.pointer (some ⟨w.heap.size+1,2,none⟩)),(13,.slice s2 (ai en2) d2),(14,.slice ky (ai en) kz),(15,.agg #[.bool (au n),.slice wz (ah n) sw,.slice rf (ai dn) rM])] a0.tmps,a0.defers⟩∧Below w.heap.size w V∧SBk V (w.heap.size+1+1) #[.bool (au n),.slice wz (ah n) sw,.slice rf (ai dn) rM] 61∧RN V (.slice wz (ah n) sw) (n).natAbs∧RN V (.slice rf (ai dn) rM) (dn)) ?_ ?_
 · refine ay (by kernel_rfl) 11 1 (fun i=>[5,6,7,8,9,10,11,12,13,14,15].getD i 0) (RelR [Rel.val (.pointer (some ⟨w.heap.size,0,none⟩)),Rel.val (.agg #[.bool (au n1),.slice p1 (ah n1) c1]),Rel.val (.pointer (some ⟨w.heap.size+1,0,none⟩)),Rel.val (.agg #[.bool (au n2),.slice p2 (ah n2) c2]),Rel.int z,Rel.val (.pointer (some ⟨w.heap.size,2,none⟩)),Rel.val (.slice s1 (ai en1) d1),Rel.val (.pointer (some ⟨w.heap.size+1,2,none⟩)),Rel.val (.slice s2 (ai en2) d2),Rel.nat en,⟨fun v W=>∃ p c s d,v=.agg #[.bool (au n),.slice p (ah n) c,.slice s (ai dn) d]∧RN W (.slice p (ah n) c) (n).natAbs∧RN W (.slice s (ai dn) d) (dn),fun _ _ _ ⟨p,c,s,d,e,h0,h1⟩ hb=>⟨p,c,s,d,e,h0.below hb,h1.below hb⟩⟩]) (fun W=>Below W0.heap.size W0 W) (fun _ _=>True) (by kernel_rfl) (by kernel_rfl) (by kernel_rfl) trivial (Below.refl _ _).drew ?_ ?_
   · intro w9 a W i hI hD hrd him
     obtain ⟨HI,HD,Hr⟩:=ae hI hD hrd;clear hI hrd hD;have y2:a.tmps[2]? = some (.pointer (some ⟨w.heap.size,0,none⟩)):=HI.out.rest 2 (by decide);have y3:a.tmps[3]? = some (.pointer (some ⟨w.heap.size+1,0,none⟩)):=HI.out.rest 3 (by decide);obtain ⟨mf,mi⟩:=bH (K1.out.below HI.out.world) rfl rfl;obtain ⟨cO,bg⟩:=bH (K2.out.below HI.out.world) rfl rfl;have l5:=(K1.out.below HI.out.world).cell (i:=2) rfl;have bn:=(K2.out.below HI.out.world).cell (i:=2) rfl;have X0:RV _ w9 a 0 5 (.pointer (some ⟨w.heap.size,0,none⟩)):=HI.out.rh;have X2:RV _ w9 a 2 7 (.pointer (some ⟨w.heap.size+1,0,none⟩)):=HI.out.rh;have X1:RV _ w9 a 1 6 (.agg #[.bool (au n1),.slice p1 (ah n1) c1]):=HI.out.rh;have X3:RV _ w9 a 3 8 (.agg #[.bool (au n2),.slice p2 (ah n2) c2]):=HI.out.rh;have X5:RV _ w9 a 5 10 (.pointer (some ⟨w.heap.size,2,none⟩)):=HI.out.rh;have X7:RV _ w9 a 7 12 (.pointer (some ⟨w.heap.size+1,2,none⟩)):=HI.out.rh;have X6:RV _ w9 a 6 11 (.slice s1 (ai en1) d1):=HI.out.rh;have X8:RV _ w9 a 8 13 (.slice s2 (ai en2) d2):=HI.out.rh
     match i,him,Hr with
     | 0,_,Hi|1,_,Hi|2,_,Hi|3,_,Hi =>
       try have x0:=X0.g Hi.out (by decide +kernel)
       try have x2:=X2.g Hi.out (by decide +kernel)
       refine ax rfl fun K' hK=>?_;go_simp;exact hK.out _ _ ⟨HI.out.pv Hi.out rfl,trivial⟩
     | 4,_,Hi =>
       have x1:=X1.g Hi.out (by kernel_rfl);have x3:=X3.g Hi.out (by kernel_rfl);refine ax rfl fun K' hK=>?_;go_simp;with_reducible refine(C1.out _ _ _ _ _ (R1.out.below HI.out.world) (R2.out.below HI.out.world)).mono ?_
       rintro e W' ⟨lg,lv,rfl,kK,hb⟩;exact hK.out _ _ ⟨HI.out.pc Hi.out hb ⟨lg,lv,rfl,kK⟩,trivial⟩
     | 5,_,Hi|6,_,Hi|7,_,Hi|8,_,Hi =>
       try have x5:=X5.g Hi.out (by decide +kernel)
       try have x7:=X7.g Hi.out (by decide +kernel)
       refine ax rfl fun K' hK=>?_;go_simp;exact hK.out _ _ ⟨HI.out.pv Hi.out rfl,trivial⟩
     | 9,_,Hi =>
       have x6:=X6.g Hi.out (by kernel_rfl);have x8:=X8.g Hi.out (by kernel_rfl);refine ax rfl fun K' hK=>?_;go_simp;with_reducible refine(C2.out _ _ _ _ _ (T1.out.below HI.out.world) (T2.out.below HI.out.world)).mono ?_
       rintro e W' ⟨ky,kz,rfl,kM,hb⟩;exact hK.out _ _ ⟨HI.out.pc Hi.out hb ⟨ky,kz,rfl,kM⟩,trivial⟩
     | 10,_,Hi =>
       obtain⟨v',x4,lg,lv,e,kK⟩:=HI.out.at (i:=4) Hi.out (by kernel_rfl) (by decide);obtain rfl:=e;have x4:a.tmps[9]? = some (.agg #[.bool (au z),.slice lg (ah z) lv]):=x4;have bV:=hid kK;clear kK;obtain⟨v',x9,ky,kz,e,kM⟩:=HI.out.at (i:=9) Hi.out (by kernel_rfl) (by decide);obtain rfl:=e;have x9:a.tmps[14]? = some (.slice ky (ai en) kz):=x9;have af:=hid kM;clear kM;refine ax rfl fun K' hK=>?_;go_simp;with_reducible refine(C3.out _ _ _ _ _ bV.out af.out).mono ?_
       rintro e W' ⟨wz,sw,rf,rM,rfl,bq,bu,hb⟩;exact hK.out _ _ ⟨HI.out.pc Hi.out hb ⟨wz,sw,rf,rM,rfl,bq,bu⟩,trivial⟩
     | n+11,h,_=>exact absurd h (by omega)
   · intro w9 a W hI hD wy
     obtain⟨v',x4,lg,lv,e,kK⟩:=hI.slots 4 (by decide) (wy 4 (by decide));obtain rfl:=e;have bV:=hid kK;clear kK;obtain⟨v',x9,ky,kz,e,kM⟩:=hI.slots 9 (by decide) (wy 9 (by decide));obtain rfl:=e;have af:=hid kM;clear kM;obtain⟨v',x10,wz,sw,rf,rM,e,bq,bu⟩:=hI.slots 10 (by decide) (wy 10 (by decide));obtain rfl:=e;have u05:=hid bq;clear bq;have u06:=hid bu;clear bu;have x10:a.tmps[15]? = some (.agg #[.bool (au n),.slice wz (ah n) sw,.slice rf (ai dn) rM]):=x10;obtain ⟨l6,HI,HA⟩:=ae hI.world hI wy;clear hI wy;obtain ⟨fq,K3⟩:=aD (u6.out.trans (l6.out.mono u6.out.size)) (K3.out.below l6.out);have RZ:=bV;have RE:=af;have RQ:=u05;have TQ:=u06;have y4:a.tmps[4]? = some (.pointer (some ⟨w.heap.size+1+1,0,none⟩)):=HI.out.rest 4 (by decide);obtain ⟨fw,fQ,ed⟩:=ag K3.out rfl rfl rfl;obtain ⟨u07,u08,u09⟩:=aN K3.out;refine aL (t:=0) ?_;refine ax rfl fun K' hK=>?_;go_simp;refine hK.out _ _ ?_;clear hK;refine aR ?_;have s0:∀ {v':Value} {n':Nat},RN W v' n'→RN (storeAll W (w.heap.size+1+1) 0 [.bool (au n),.slice wz (ah n) sw,.slice rf (ai dn) rM]) v' n':=fun h'=>bB _ h' K3.out (by simp[bZ]) (by simp[bD]);exact⟨rfl,lg,lv,ky,kz,wz,sw,rf,rM,(HI.out.finx ⟨HI.out.sx HA.out 0,HI.out.sx HA.out 1,HI.out.sx HA.out 2,HI.out.sx HA.out 3,x4,HI.out.sx HA.out 5,HI.out.sx HA.out 6,HI.out.sx HA.out 7,HI.out.sx HA.out 8,x9,x10,trivial⟩ rfl),(av (l:=[.bool (au n),.slice wz (ah n) sw,.slice rf (ai dn) rM]) (i:=0) (by omega) fq.out),(bO (l:=[.bool (au n),.slice wz (ah n) sw,.slice rf (ai dn) rM]) (i:=0) K3.out),(s0 RQ.out),(s0 TQ.out)⟩
 rintro a' W1 ⟨lg,lv,ky,kz,wz,sw,rf,rM,rfl,z0,z1,z2,z3⟩;obtain ⟨oM,K3,RQ,TQ⟩:=aP z0 z1 z2 z3;clear z0 z1 z2 z3;simp only[aV,List.setIfInBounds_toArray,List.set_cons_zero,List.set_cons_succ];go_wp2;obtain ⟨fw,fQ,ed⟩:=ag K3.out rfl rfl rfl;exact bodyPost_ret (v:=.agg #[.bool (au n),.slice wz (ah n) sw,.slice rf (ai dn) rM]) (by simp[results,results69,go_sem,fw,fQ,ed]) rfl ⟨_,_,_,_,rfl,RQ.out,TQ.out,oM.out⟩
open Go.Lib (hid)
theorem z1s (n1 n2 m n:Int)(en1 en2 f dn:Nat)(p1:Option Addr)(c1:Nat)(s1:Option Addr)(d1:Nat)(p2:Option Addr)(c2:Nat)(s2:Option Addr)(d2:Nat)(w:World)(h1:∀ p1 c1 s1 d1 W,RN W (.slice p1 (ah n2) c1) n2.natAbs→RN W (.slice s1 (ai en2) d1) en2→CF 81 #[.agg #[.bool (au n2),.slice p1 (ah n2) c1,.slice s1 (ai en2) d1]] W m f)(h2:∀ p1 c1 s1 d1 p2 c2 s2 d2 W,RN W (.slice p1 (ah n1) c1) n1.natAbs→RN W (.slice s1 (ai en1) d1) en1→RN W (.slice p2 (ah m) c2) m.natAbs→RN W (.slice s2 (ai f) d2) f→CF 55 #[.agg #[.bool (au n1),.slice p1 (ah n1) c1,.slice s1 (ai en1) d1],.agg #[.bool (au m),.slice p2 (ah m) c2,.slice s2 (ai f) d2]] W n dn)(r1:RN w (.slice p1 (ah n1) c1) n1.natAbs)(t1:RN w (.slice s1 (ai en1) d1) en1)(r2:RN w (.slice p2 (ah n2) c2) n2.natAbs)(t2:RN w (.slice s2 (ai en2) d2) en2) :
 CF 57 #[.agg #[.bool (au n1),.slice p1 (ah n1) c1,.slice s1 (ai en1) d1],.agg #[.bool (au n2),.slice p2 (ah n2) c2,.slice s2 (ai en2) d2]] w n dn:=by
 obtain ⟨C1,C2,R1,T1,R2,T2⟩:=bX h1 h2 r1 t1 r2 t2;clear h1 h2 r1 t1 r2 t2;go_enter func57,ntmps57
 go_upto_region 1 with fail
 refine ak w [(#[.bool (au n1),.slice p1 (ah n1) c1,.slice s1 (ai en1) d1],61),(#[.bool (au n2),.slice p2 (ah n2) c2,.slice s2 (ai en2) d2],61),(#[.bool false,.slice none 0 0,.slice none 0 0],61)] rfl ?_;rintro W0 ⟨k1,k2,k3,hb⟩;have u6:=hid (show Below w.heap.size w W0 from hb);obtain ⟨R1,T1,R2,T2⟩:=bi u6.out R1 T1 R2 T2;obtain ⟨K1,K2,K3⟩:=ae k1 k2 k3;clear k1 k2 k3 hb;go_wp2_with fail
 refine aB (fun a0 a' V=>∃ wo wu kC kD rV p8 pq ol,a'=⟨aV [(5,.agg #[.bool (au n1),.slice p1 (ah n1) c1,.slice s1 (ai en1) d1]),(6,.agg #[.bool (au n2),.slice p2 (ah n2) c2,.slice s2 (ai en2) d2]),(7,.agg #[.bool (au m),.slice wo (ah m) wu,.slice kC (ai f) kD]),(8,.agg #[.bool (au n),.slice rV (ah n) p8,.slice pq (ai dn) ol])] a0.tmps,a0.defers⟩∧Below w.heap.size w V∧SBk V (w.heap.size+1+1) #[.bool (au n),.slice rV (ah n) p8,.slice pq (ai dn) ol] 61∧RN V (.slice rV (ah n) p8) (n).natAbs∧RN V (.slice pq (ai dn) ol) (dn)) ?_ ?_
 · refine ay (by kernel_rfl) 4 1 (fun i=>[5,6,7,8].getD i 0) (RelR [Rel.val (.agg #[.bool (au n1),.slice p1 (ah n1) c1,.slice s1 (ai en1) d1]),Rel.val (.agg #[.bool (au n2),.slice p2 (ah n2) c2,.slice s2 (ai en2) d2]),⟨fun v W=>∃ p c s d,v=.agg #[.bool (au m),.slice p (ah m) c,.slice s (ai f) d]∧RN W (.slice p (ah m) c) (m).natAbs∧RN W (.slice s (ai f) d) (f),fun _ _ _ ⟨p,c,s,d,e,h0,h1⟩ hb=>⟨p,c,s,d,e,h0.below hb,h1.below hb⟩⟩,⟨fun v W=>∃ p c s d,v=.agg #[.bool (au n),.slice p (ah n) c,.slice s (ai dn) d]∧RN W (.slice p (ah n) c) (n).natAbs∧RN W (.slice s (ai dn) d) (dn),fun _ _ _ ⟨p,c,s,d,e,h0,h1⟩ hb=>⟨p,c,s,d,e,h0.below hb,h1.below hb⟩⟩]) (fun W=>Below W0.heap.size W0 W) (fun _ _=>True) (by kernel_rfl) (by kernel_rfl) (by kernel_rfl) trivial (Below.refl _ _).drew ?_ ?_
   · intro w9 a W i hI hD hrd him
     obtain ⟨HI,HD,Hr⟩:=ae hI hD hrd;clear hI hrd hD;have y2:a.tmps[2]? = some (.pointer (some ⟨w.heap.size,0,none⟩)):=HI.out.rest 2 (by decide);have y3:a.tmps[3]? = some (.pointer (some ⟨w.heap.size+1,0,none⟩)):=HI.out.rest 3 (by decide);obtain ⟨mf,mi,l5⟩:=ag (K1.out.below HI.out.world) rfl rfl rfl;obtain ⟨cO,bg,bn⟩:=ag (K2.out.below HI.out.world) rfl rfl rfl;have X1:RV _ w9 a 1 6 (.agg #[.bool (au n2),.slice p2 (ah n2) c2,.slice s2 (ai en2) d2]):=HI.out.rh;have X0:RV _ w9 a 0 5 (.agg #[.bool (au n1),.slice p1 (ah n1) c1,.slice s1 (ai en1) d1]):=HI.out.rh
     match i,him,Hr with
     | 0,_,Hi|1,_,Hi =>
       refine ax rfl fun K' hK=>?_;go_simp;exact hK.out _ _ ⟨HI.out.pv Hi.out rfl,trivial⟩
     | 2,_,Hi =>
       have x1:=X1.g Hi.out (by kernel_rfl);refine ax rfl fun K' hK=>?_;go_simp;with_reducible refine(C1.out _ _ _ _ _ (R2.out.below HI.out.world) (T2.out.below HI.out.world)).mono ?_
       rintro e W' ⟨wo,wu,kC,kD,rfl,ww,kV,hb⟩;exact hK.out _ _ ⟨HI.out.pc Hi.out hb ⟨wo,wu,kC,kD,rfl,ww,kV⟩,trivial⟩
     | 3,_,Hi =>
       have x0:=X0.g Hi.out (by kernel_rfl);obtain⟨v',x2,wo,wu,kC,kD,e,ww,kV⟩:=HI.out.at (i:=2) Hi.out (by kernel_rfl) (by decide);obtain rfl:=e;have x2:a.tmps[7]? = some (.agg #[.bool (au m),.slice wo (ah m) wu,.slice kC (ai f) kD]):=x2;have kE:=hid ww;clear ww;have u00:=hid kV;clear kV;refine ax rfl fun K' hK=>?_;go_simp;with_reducible refine(C2.out _ _ _ _ _ _ _ _ _ (R1.out.below HI.out.world) (T1.out.below HI.out.world) kE.out u00.out).mono ?_
       rintro e W' ⟨rV,p8,pq,ol,rfl,bv,bM,hb⟩;exact hK.out _ _ ⟨HI.out.pc Hi.out hb ⟨rV,p8,pq,ol,rfl,bv,bM⟩,trivial⟩
     | n+4,h,_=>exact absurd h (by omega)
   · intro w9 a W hI hD wy
     obtain⟨v',x2,wo,wu,kC,kD,e,ww,kV⟩:=hI.slots 2 (by decide) (wy 2 (by decide));obtain rfl:=e;have kE:=hid ww;clear ww;have u00:=hid kV;clear kV;obtain⟨v',x3,rV,p8,pq,ol,e,bv,bM⟩:=hI.slots 3 (by decide) (wy 3 (by decide));obtain rfl:=e;have u0a:=hid bv;clear bv;have u0b:=hid bM;clear bM;have x3:a.tmps[8]? = some (.agg #[.bool (au n),.slice rV (ah n) p8,.slice pq (ai dn) ol]):=x3;obtain ⟨l6,HI,HA⟩:=ae hI.world hI wy;clear hI wy;obtain ⟨fq,K3⟩:=aD (u6.out.trans (l6.out.mono u6.out.size)) (K3.out.below l6.out);have RM:=kE;have TM:=u00;have RQ:=u0a;have TQ:=u0b;have y4:a.tmps[4]? = some (.pointer (some ⟨w.heap.size+1+1,0,none⟩)):=HI.out.rest 4 (by decide);obtain ⟨fw,fQ,ed⟩:=ag K3.out rfl rfl rfl;obtain ⟨u07,u08,u09⟩:=aN K3.out;refine aL (t:=0) ?_;refine ax rfl fun K' hK=>?_;go_simp;refine hK.out _ _ ?_;clear hK;refine aR ?_;have s0:∀ {v':Value} {n':Nat},RN W v' n'→RN (storeAll W (w.heap.size+1+1) 0 [.bool (au n),.slice rV (ah n) p8,.slice pq (ai dn) ol]) v' n':=fun h'=>bB _ h' K3.out (by simp[bZ]) (by simp[bD]);exact⟨rfl,wo,wu,kC,kD,rV,p8,pq,ol,(HI.out.finx ⟨HI.out.sx HA.out 0,HI.out.sx HA.out 1,x2,x3,trivial⟩ rfl),(av (l:=[.bool (au n),.slice rV (ah n) p8,.slice pq (ai dn) ol]) (i:=0) (by omega) fq.out),(bO (l:=[.bool (au n),.slice rV (ah n) p8,.slice pq (ai dn) ol]) (i:=0) K3.out),(s0 RQ.out),(s0 TQ.out)⟩
 rintro a' W1 ⟨wo,wu,kC,kD,rV,p8,pq,ol,rfl,z0,z1,z2,z3⟩;obtain ⟨oM,K3,RQ,TQ⟩:=aP z0 z1 z2 z3;clear z0 z1 z2 z3;simp only[aV,List.setIfInBounds_toArray,List.set_cons_zero,List.set_cons_succ];go_wp2;obtain ⟨fw,fQ,ed⟩:=ag K3.out rfl rfl rfl;exact bodyPost_ret (v:=.agg #[.bool (au n),.slice rV (ah n) p8,.slice pq (ai dn) ol]) (by simp[results,results57,go_sem,fw,fQ,ed]) rfl ⟨_,_,_,_,rfl,RQ.out,TQ.out,oM.out⟩
end Go.Proofs.YthbdjinlcgnebaaGreatDoor
open Go.Lib (hid)
namespace Go.Proofs.YthbdjinlcgnebaaGreatDoor
open Go.RowKit Go.Gb
theorem z3h (n:Int)(en:Nat)(sn:ByteArray)(p1:Option Addr)(c1:Nat)(s1:Option Addr)(d1:Nat)(w:World)(h1:∀ p1 c1 W,RN W (.slice p1 (ah n) c1) n.natAbs→CR 70 #[.agg #[.bool (au n),.slice p1 (ah n) c1]] W (.string sn))(h2:∀ s1 d1 W,RN W (.slice s1 (ai en) d1) en→CR 71 #[.slice s1 (ai en) d1] W (.string ⟨#[49]⟩))(r1:RN w (.slice p1 (ah n) c1) n.natAbs)(t1:RN w (.slice s1 (ai en) d1) en) :
 CR 41 #[.agg #[.bool (au n),.slice p1 (ah n) c1,.slice s1 (ai en) d1]] w (.string sn):=by
 obtain ⟨C1,C2,R1,T1⟩:=aP h1 h2 r1 t1;clear h1 h2 r1 t1;go_enter func41,ntmps41
 go_upto_region 1 with fail
 refine ak w [(#[.bool (au n),.slice p1 (ah n) c1,.slice s1 (ai en) d1],61)] rfl ?_;rintro W0 ⟨k1,hb⟩;have u6:=hid (show Below w.heap.size w W0 from hb);obtain ⟨R1,T1⟩:=aO u6.out R1 T1;have K1:=Lib.hid k1;clear k1 hb;obtain ⟨mf,mi⟩:=bH K1.out rfl rfl;go_wp2_with fail
 with_reducible refine(C1.out _ _ _ R1.out).mono ?_
 rintro e W1 ⟨rfl,hb⟩;clear mf mi;obtain ⟨K1,T1⟩:=aO hb K1 T1;have oM:=hbt u6 hb;clear hb;have l5:=K1.out.cell (i:=2) rfl;go_wp2_with fail
 with_reducible refine(C2.out _ _ _ T1.out).mono ?_
 rintro e W2 ⟨rfl,hb⟩;clear l5;have gy:=hbt oM hb;clear hb;go_wp2;exact bodyPost_ret (v:=.string sn) (by simp[results,results41,go_sem]) rfl ⟨rfl,gy.out⟩
theorem z1r (n:Int)(en:Nat)(sn sd res:ByteArray)(hsd:(sd.toList==[49])=false)(hr:sn++(⟨#[47]⟩++sd)=res)(hl1:sn.size≤10000)(hl2:sd.size≤10000)(p1:Option Addr)(c1:Nat)(s1:Option Addr)(d1:Nat)(w:World)(h1:∀ p1 c1 W,RN W (.slice p1 (ah n) c1) n.natAbs→CR 70 #[.agg #[.bool (au n),.slice p1 (ah n) c1]] W (.string sn))(h2:∀ s1 d1 W,RN W (.slice s1 (ai en) d1) en→CR 71 #[.slice s1 (ai en) d1] W (.string sd))(r1:RN w (.slice p1 (ah n) c1) n.natAbs)(t1:RN w (.slice s1 (ai en) d1) en) :
 CR 41 #[.agg #[.bool (au n),.slice p1 (ah n) c1,.slice s1 (ai en) d1]] w (.string res):=by
 obtain ⟨C1,C2,R1,T1,HR,HL1,HL2⟩:=fB h1 h2 r1 t1 hr hl1 hl2;have k0:¬ sd.toList=[49]:=by simpa using hsd
 clear hr hl1 hl2 h1 h2 r1 t1;go_enter func41,ntmps41
 go_upto_region 1 with fail
 refine ak w [(#[.bool (au n),.slice p1 (ah n) c1,.slice s1 (ai en) d1],61)] rfl ?_;rintro W0 ⟨k1,hb⟩;have u6:=hid (show Below w.heap.size w W0 from hb);obtain ⟨R1,T1⟩:=aO u6.out R1 T1;have K1:=Lib.hid k1;clear k1 hb;obtain ⟨mf,mi⟩:=bH K1.out rfl rfl;go_wp2_with fail
 with_reducible refine(C1.out _ _ _ R1.out).mono ?_
 rintro e W1 ⟨rfl,hb⟩;clear mf mi;obtain ⟨K1,T1⟩:=aO hb K1 T1;have oM:=hbt u6 hb;clear hb;have l5:=K1.out.cell (i:=2) rfl;go_wp2_with fail
 with_reducible refine(C2.out _ _ _ T1.out).mono ?_
 rintro e W2 ⟨rfl,hb⟩;clear l5;have gy:=hbt oM hb;clear hb;have ha1:=run_string_add_sum (P:=Tryz.prog) W2 ⟨#[47]⟩ sd (by have:=HL2.out;have e:(⟨#[47]⟩:ByteArray).size=1:=rfl;omega);have ha2:=run_string_add_sum (P:=Tryz.prog) W2 sn (⟨#[47]⟩++sd) (by have:=HL1.out;have:=HL2.out;have e:(⟨#[47]⟩:ByteArray).size=1:=rfl;rw[ByteArray.size_append];omega);rw[HR.out]at ha2;go_wp2;exact bodyPost_ret (v:=.string res) (by simp[results,results41,go_sem]) rfl ⟨rfl,gy.out⟩
