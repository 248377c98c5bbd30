/- texts -/
import Derived.Test.YtodcdibanokjjaaGreatDoorQj
import Derived.Lib.Repeat
import Derived.Shelf.Strings.SlTrimAscii
import Derived.Test.YtodcdibanokjjaaGreatDoorMz40q
namespace Go.Proofs.YtodcdibanokjjaaGreatDoor
open Go.RowKit Go.Gb
theorem rF {w:World}{v:Value}{p q:Addr}:(w.setCell p v).frozen? q=w.frozen? q:=by simp
theorem xE {q:Rat}(h1:q.num.natAbs<1000)(h2:q.den<1000):aJ q:=⟨(show Sm 3 _ by unfold Sm;omega).mono (by decide),(show Sm 3 _ by unfold Sm;omega).mono (by decide)⟩
theorem qnd (q:Rat)(n:Int)(d:Nat)(a x y:ByteArray)(h:q.num=n∧q.den=d∧Sq q=a∧Sz n=x∧Sz (d:Int)=y):Sq q=a∧Fv q=.agg #[.string x,.string y]:=by
 obtain⟨h1,h2,h3,h4,h5⟩:=h;refine⟨h3,?_⟩;unfold Fv
 rw[h1,h2,h4,h5]
theorem q5:Sq 5=⟨#[53]⟩∧Fv 5=.agg #[.string ⟨#[53]⟩,.string ⟨#[49]⟩]:=qnd _ 5 1 _ _ _ (by decide +kernel)
theorem q_0:Sq (0:Rat)=⟨#[48]⟩:=by decide +kernel
theorem q_1:Sq (1:Rat)=⟨#[49]⟩:=by decide +kernel
end Go.Proofs.YtodcdibanokjjaaGreatDoor
set_option maxRecDepth 100000
set_option maxHeartbeats 20000000
open Go.Lib (hid)
namespace Go.Proofs.YtodcdibanokjjaaGreatDoor
open Go.RowKit Go.Gb
theorem z1x (n1 n2 m n:Int)(en1 en2 f dn:Nat)(p1:Option Addr)(c1:Nat)(s1:Option Addr)(d1:Nat)(p2:Option Addr)(c2:Nat)(s2:Option Addr)(d2:Nat)(w:World)(h1:∀ p1 c1 s1 d1 W,RN W (.slice p1 (aa n2) c1) n2.natAbs→RN W (.slice s1 (ag en2) d1) en2→CF 59 #[.agg #[.bool (ah n2),.slice p1 (aa n2) c1,.slice s1 (ag en2) d1]] W m f)(h2:∀ p1 c1 s1 d1 p2 c2 s2 d2 W,RN W (.slice p1 (aa n1) c1) n1.natAbs→RN W (.slice s1 (ag en1) d1) en1→RN W (.slice p2 (aa m) c2) m.natAbs→RN W (.slice s2 (ag f) d2) f→CF 39 #[.agg #[.bool (ah n1),.slice p1 (aa n1) c1,.slice s1 (ag en1) d1],.agg #[.bool (ah m),.slice p2 (aa m) c2,.slice s2 (ag f) d2]] W n dn)(r1:RN w (.slice p1 (aa n1) c1) n1.natAbs)(t1:RN w (.slice s1 (ag en1) d1) en1)(r2:RN w (.slice p2 (aa n2) c2) n2.natAbs)(t2:RN w (.slice s2 (ag en2) d2) en2) :
 CF 34 #[.agg #[.bool (ah n1),.slice p1 (aa n1) c1,.slice s1 (ag en1) d1],.agg #[.bool (ah n2),.slice p2 (aa n2) c2,.slice s2 (ag en2) d2]] w n dn:=by
 obtain ⟨C1,C2,R1,T1,R2,T2⟩:=hz6 h1 h2 r1 t1 r2 t2;clear h1 h2 r1 t1 r2 t2;go_enter Tryz.func34,Tryz.ntmps34
 go_upto_region 1 with fail
 refine ax w [(#[.bool (ah n1),.slice p1 (aa n1) c1,.slice s1 (ag en1) d1],48),(#[.bool (ah n2),.slice p2 (aa n2) c2,.slice s2 (ag en2) d2],48),(#[.bool false,.slice none 0 0,.slice none 0 0],48)] rfl ?_;rintro W0 ⟨k1,k2,k3,hb⟩;have HB0:=hid (show Below w.heap.size w W0 from hb);obtain ⟨R1,T1,R2,T2,K1,K2,K3⟩:=hz7 (R1.out.below HB0.out) (T1.out.below HB0.out) (R2.out.below HB0.out) (T2.out.below HB0.out) k1 k2 k3;clear k1 k2 k3 hb;go_wp2_with fail
 refine aA (fun a0 a' V=>∃ u04 u05 u06 u07 u00 u01 u02 u03,a'=⟨putL [(5,.agg #[.bool (ah n1),.slice p1 (aa n1) c1,.slice s1 (ag en1) d1]),(6,.agg #[.bool (ah n2),.slice p2 (aa n2) c2,.slice s2 (ag en2) d2]),(7,.agg #[.bool (ah m),.slice u04 (aa m) u05,.slice u06 (ag f) u07]),(8,.agg #[.bool (ah n),.slice u00 (aa n) u01,.slice u02 (ag dn) u03])] a0.tmps,a0.defers⟩∧Below w.heap.size w V∧SBk V (w.heap.size+1+1) #[.bool (ah n),.slice u00 (aa n) u01,.slice u02 (ag dn) u03] 48∧RN V (.slice u00 (aa n) u01) (n).natAbs∧RN V (.slice u02 (ag dn) u03) (dn)) ?_ ?_
 · refine az (by kernel_rfl) 4 1 (fun i=>[5,6,7,8].getD i 0) (RelR [Rel.val (.agg #[.bool (ah n1),.slice p1 (aa n1) c1,.slice s1 (ag en1) d1]),Rel.val (.agg #[.bool (ah n2),.slice p2 (aa n2) c2,.slice s2 (ag en2) d2]),⟨fun v W=>∃ p c s d,v=.agg #[.bool (ah m),.slice p (aa m) c,.slice s (ag f) d]∧RN W (.slice p (aa m) c) (m).natAbs∧RN W (.slice s (ag f) d) (f),fun _ _ _ ⟨p,c,s,d,e,h0,h1⟩ hb=>⟨p,c,s,d,e,h0.below hb,h1.below hb⟩⟩,⟨fun v W=>∃ p c s d,v=.agg #[.bool (ah n),.slice p (aa n) c,.slice s (ag dn) d]∧RN W (.slice p (aa n) c) (n).natAbs∧RN W (.slice s (ag dn) d) (dn),fun _ _ _ ⟨p,c,s,d,e,h0,h1⟩ hb=>⟨p,c,s,d,e,h0.below hb,h1.below hb⟩⟩]) (fun W=>Below W0.heap.size W0 W) (fun _ _=>True) (by kernel_rfl) (by kernel_rfl) (by kernel_rfl) trivial (Below.refl _ _).drew ?_ ?_
   · intro listed a W i hI hD hrd him
     obtain ⟨HI,HD,Hr⟩:=hz3 hI hD hrd;clear hI hrd hD;have y2:a.tmps[2]? = some (.pointer (some ⟨w.heap.size,0,none⟩)):=HI.out.rest 2 (by decide);have y3:a.tmps[3]? = some (.pointer (some ⟨w.heap.size+1,0,none⟩)):=HI.out.rest 3 (by decide);obtain ⟨dK10,dK11,dK12⟩:=cz3 (K1.out.below HI.out.world) rfl rfl rfl;obtain ⟨dK20,dK21,dK22⟩:=cz3 (K2.out.below HI.out.world) rfl rfl rfl;have X1:RV _ listed a 1 6 (.agg #[.bool (ah n2),.slice p2 (aa n2) c2,.slice s2 (ag en2) d2]):=HI.out.rh;have X0:RV _ listed a 0 5 (.agg #[.bool (ah n1),.slice p1 (aa n1) c1,.slice s1 (ag en1) d1]):=HI.out.rh
     match i,him,Hr with
     | 0,_,Hi =>
       refine ak rfl fun K' hK=>?_;go_simp;exact hK.out _ _ ⟨HI.out.pv Hi.out rfl,trivial⟩
     | 1,_,Hi =>
       refine ak rfl fun K' hK=>?_;go_simp;exact hK.out _ _ ⟨HI.out.pv Hi.out rfl,trivial⟩
     | 2,_,Hi =>
       have x1:=X1.g Hi.out (by kernel_rfl);refine ak rfl fun K' hK=>?_;go_simp;with_reducible refine(C1.out _ _ _ _ _ (R2.out.below HI.out.world) (T2.out.below HI.out.world)).mono ?_
       rintro e W' ⟨u04,u05,u06,u07,rfl,u08,u09,hb⟩;exact hK.out _ _ ⟨HI.out.pc Hi.out hb ⟨u04,u05,u06,u07,rfl,u08,u09⟩,trivial⟩
     | 3,_,Hi =>
       have x0:=X0.g Hi.out (by kernel_rfl);obtain⟨v',x2,u04,u05,u06,u07,e,u08,u09⟩:=HI.out.at (i:=2) Hi.out (by kernel_rfl) (by decide);obtain rfl:=e;have x2:a.tmps[7]? = some (.agg #[.bool (ah m),.slice u04 (aa m) u05,.slice u06 (ag f) u07]):=x2;have u0c:=hid u08;clear u08;have u0d:=hid u09;clear u09;refine ak rfl fun K' hK=>?_;go_simp;with_reducible refine(C2.out _ _ _ _ _ _ _ _ _ (R1.out.below HI.out.world) (T1.out.below HI.out.world) u0c.out u0d.out).mono ?_
       rintro e W' ⟨u00,u01,u02,u03,rfl,u0a,u0b,hb⟩;exact hK.out _ _ ⟨HI.out.pc Hi.out hb ⟨u00,u01,u02,u03,rfl,u0a,u0b⟩,trivial⟩
     | n+4,h,_=>exact absurd h (by omega)
   · intro listed a W hI hD hall
     obtain⟨v',x2,u04,u05,u06,u07,e,u08,u09⟩:=hI.slots 2 (by decide) (hall 2 (by decide));obtain rfl:=e;have u0c:=hid u08;clear u08;have u0d:=hid u09;clear u09;obtain⟨v',x3,u00,u01,u02,u03,e,u0a,u0b⟩:=hI.slots 3 (by decide) (hall 3 (by decide));obtain rfl:=e;have u0e:=hid u0a;clear u0a;have u0f:=hid u0b;clear u0b;have x3:a.tmps[8]? = some (.agg #[.bool (ah n),.slice u00 (aa n) u01,.slice u02 (ag dn) u03]):=x3;obtain ⟨HBW,HI,HA⟩:=hz3 hI.world hI hall;clear hI hall;obtain ⟨K3,HBX⟩:=hz2 (K3.out.below HBW.out) (HB0.out.trans (HBW.out.mono HB0.out.size));have RM:=u0c;have TM:=u0d;have RQ:=u0e;have TQ:=u0f;have y4:a.tmps[4]? = some (.pointer (some ⟨w.heap.size+1+1,0,none⟩)):=HI.out.rest 4 (by decide);obtain ⟨dK30,dK31,dK32⟩:=cz3 K3.out rfl rfl rfl;obtain ⟨fK30,fK31,fK32⟩:=fz3 K3.out;refine aL (t:=0) ?_;refine ak rfl fun K' hK=>?_;go_simp;refine hK.out _ _ ?_;clear hK;refine aT ?_;have s0:∀ {v':Value} {n':Nat},RN W v' n'→RN (storeAll W (w.heap.size+1+1) 0 [.bool (ah n),.slice u00 (aa n) u01,.slice u02 (ag dn) u03]) v' n':=fun h'=>aV _ h' K3.out (by simp[bF]) (by simp[aW]);exact⟨rfl,u04,u05,u06,u07,u00,u01,u02,u03,(HI.out.finx ⟨HI.out.sx HA.out 0,HI.out.sx HA.out 1,x2,x3,trivial⟩ rfl),(au (l:=[.bool (ah n),.slice u00 (aa n) u01,.slice u02 (ag dn) u03]) (i:=0) (by omega) HBX.out),(bJ (l:=[.bool (ah n),.slice u00 (aa n) u01,.slice u02 (ag dn) u03]) (i:=0) K3.out),(s0 RQ.out),(s0 TQ.out)⟩
 rintro a' W1 ⟨u04,u05,u06,u07,u00,u01,u02,u03,rfl,z0,z1,z2,z3⟩;obtain ⟨HB1,K3,RQ,TQ⟩:=hz4 z0 z1 z2 z3;clear z0 z1 z2 z3;simp only[putL,List.setIfInBounds_toArray,List.set_cons_zero,List.set_cons_succ];go_wp2;obtain ⟨dK30,dK31,dK32⟩:=cz3 K3.out rfl rfl rfl;exact bodyPost_ret (v:=.agg #[.bool (ah n),.slice u00 (aa n) u01,.slice u02 (ag dn) u03]) (by simp[results,Tryz.results34,go_sem,dK30,dK31,dK32]) rfl ⟨_,_,_,_,rfl,RQ.out,TQ.out,HB1.out⟩
theorem z1B (n1 n2 m n:Int)(en1 en2 f dn:Nat)(p1:Option Addr)(c1:Nat)(s1:Option Addr)(d1:Nat)(p2:Option Addr)(c2:Nat)(s2:Option Addr)(d2:Nat)(w:World)(h1:∀ p1 c1 s1 d1 W,RN W (.slice p1 (aa n2) c1) n2.natAbs→RN W (.slice s1 (ag en2) d1) en2→CF 66 #[.agg #[.bool (ah n2),.slice p1 (aa n2) c1,.slice s1 (ag en2) d1]] W m f)(h2:∀ p1 c1 s1 d1 p2 c2 s2 d2 W,RN W (.slice p1 (aa n1) c1) n1.natAbs→RN W (.slice s1 (ag en1) d1) en1→RN W (.slice p2 (aa m) c2) m.natAbs→RN W (.slice s2 (ag f) d2) f→CF 36 #[.agg #[.bool (ah n1),.slice p1 (aa n1) c1,.slice s1 (ag en1) d1],.agg #[.bool (ah m),.slice p2 (aa m) c2,.slice s2 (ag f) d2]] W n dn)(r1:RN w (.slice p1 (aa n1) c1) n1.natAbs)(t1:RN w (.slice s1 (ag en1) d1) en1)(r2:RN w (.slice p2 (aa n2) c2) n2.natAbs)(t2:RN w (.slice s2 (ag en2) d2) en2) :
 CF 38 #[.agg #[.bool (ah n1),.slice p1 (aa n1) c1,.slice s1 (ag en1) d1],.agg #[.bool (ah n2),.slice p2 (aa n2) c2,.slice s2 (ag en2) d2]] w n dn:=by
 obtain ⟨C1,C2,R1,T1,R2,T2⟩:=hz6 h1 h2 r1 t1 r2 t2;clear h1 h2 r1 t1 r2 t2;go_enter Tryz.func38,Tryz.ntmps38
 go_upto_region 1 with fail
 refine ax w [(#[.bool (ah n1),.slice p1 (aa n1) c1,.slice s1 (ag en1) d1],48),(#[.bool (ah n2),.slice p2 (aa n2) c2,.slice s2 (ag en2) d2],48),(#[.bool false,.slice none 0 0,.slice none 0 0],48)] rfl ?_;rintro W0 ⟨k1,k2,k3,hb⟩;have HB0:=hid (show Below w.heap.size w W0 from hb);obtain ⟨R1,T1,R2,T2,K1,K2,K3⟩:=hz7 (R1.out.below HB0.out) (T1.out.below HB0.out) (R2.out.below HB0.out) (T2.out.below HB0.out) k1 k2 k3;clear k1 k2 k3 hb;go_wp2_with fail
 refine aA (fun a0 a' V=>∃ u04 u05 u06 u07 u00 u01 u02 u03,a'=⟨putL [(5,.agg #[.bool (ah n1),.slice p1 (aa n1) c1,.slice s1 (ag en1) d1]),(6,.agg #[.bool (ah n2),.slice p2 (aa n2) c2,.slice s2 (ag en2) d2]),(7,.agg #[.bool (ah m),.slice u04 (aa m) u05,.slice u06 (ag f) u07]),(8,.agg #[.bool (ah n),.slice u00 (aa n) u01,.slice u02 (ag dn) u03])] a0.tmps,a0.defers⟩∧Below w.heap.size w V∧SBk V (w.heap.size+1+1) #[.bool (ah n),.slice u00 (aa n) u01,.slice u02 (ag dn) u03] 48∧RN V (.slice u00 (aa n) u01) (n).natAbs∧RN V (.slice u02 (ag dn) u03) (dn)) ?_ ?_
 · refine az (by kernel_rfl) 4 1 (fun i=>[5,6,7,8].getD i 0) (RelR [Rel.val (.agg #[.bool (ah n1),.slice p1 (aa n1) c1,.slice s1 (ag en1) d1]),Rel.val (.agg #[.bool (ah n2),.slice p2 (aa n2) c2,.slice s2 (ag en2) d2]),⟨fun v W=>∃ p c s d,v=.agg #[.bool (ah m),.slice p (aa m) c,.slice s (ag f) d]∧RN W (.slice p (aa m) c) (m).natAbs∧RN W (.slice s (ag f) d) (f),fun _ _ _ ⟨p,c,s,d,e,h0,h1⟩ hb=>⟨p,c,s,d,e,h0.below hb,h1.below hb⟩⟩,⟨fun v W=>∃ p c s d,v=.agg #[.bool (ah n),.slice p (aa n) c,.slice s (ag dn) d]∧RN W (.slice p (aa n) c) (n).natAbs∧RN W (.slice s (ag dn) d) (dn),fun _ _ _ ⟨p,c,s,d,e,h0,h1⟩ hb=>⟨p,c,s,d,e,h0.below hb,h1.below hb⟩⟩]) (fun W=>Below W0.heap.size W0 W) (fun _ _=>True) (by kernel_rfl) (by kernel_rfl) (by kernel_rfl) trivial (Below.refl _ _).drew ?_ ?_
   · intro listed a W i hI hD hrd him
     obtain ⟨HI,HD,Hr⟩:=hz3 hI hD hrd;clear hI hrd hD;have y2:a.tmps[2]? = some (.pointer (some ⟨w.heap.size,0,none⟩)):=HI.out.rest 2 (by decide);have y3:a.tmps[3]? = some (.pointer (some ⟨w.heap.size+1,0,none⟩)):=HI.out.rest 3 (by decide);obtain ⟨dK10,dK11,dK12⟩:=cz3 (K1.out.below HI.out.world) rfl rfl rfl;obtain ⟨dK20,dK21,dK22⟩:=cz3 (K2.out.below HI.out.world) rfl rfl rfl;have X1:RV _ listed a 1 6 (.agg #[.bool (ah n2),.slice p2 (aa n2) c2,.slice s2 (ag en2) d2]):=HI.out.rh;have X0:RV _ listed a 0 5 (.agg #[.bool (ah n1),.slice p1 (aa n1) c1,.slice s1 (ag en1) d1]):=HI.out.rh
     match i,him,Hr with
     | 0,_,Hi =>
       refine ak rfl fun K' hK=>?_;go_simp;exact hK.out _ _ ⟨HI.out.pv Hi.out rfl,trivial⟩
     | 1,_,Hi =>
       refine ak rfl fun K' hK=>?_;go_simp;exact hK.out _ _ ⟨HI.out.pv Hi.out rfl,trivial⟩
     | 2,_,Hi =>
       have x1:=X1.g Hi.out (by kernel_rfl);refine ak rfl fun K' hK=>?_;go_simp;with_reducible refine(C1.out _ _ _ _ _ (R2.out.below HI.out.world) (T2.out.below HI.out.world)).mono ?_
       rintro e W' ⟨u04,u05,u06,u07,rfl,u08,u09,hb⟩;exact hK.out _ _ ⟨HI.out.pc Hi.out hb ⟨u04,u05,u06,u07,rfl,u08,u09⟩,trivial⟩
     | 3,_,Hi =>
       have x0:=X0.g Hi.out (by kernel_rfl);obtain⟨v',x2,u04,u05,u06,u07,e,u08,u09⟩:=HI.out.at (i:=2) Hi.out (by kernel_rfl) (by decide);obtain rfl:=e;have x2:a.tmps[7]? = some (.agg #[.bool (ah m),.slice u04 (aa m) u05,.slice u06 (ag f) u07]):=x2;have u0c:=hid u08;clear u08;have u0d:=hid u09;clear u09;refine ak rfl fun K' hK=>?_;go_simp;with_reducible refine(C2.out _ _ _ _ _ _ _ _ _ (R1.out.below HI.out.world) (T1.out.below HI.out.world) u0c.out u0d.out).mono ?_
       rintro e W' ⟨u00,u01,u02,u03,rfl,u0a,u0b,hb⟩;exact hK.out _ _ ⟨HI.out.pc Hi.out hb ⟨u00,u01,u02,u03,rfl,u0a,u0b⟩,trivial⟩
     | n+4,h,_=>exact absurd h (by omega)
   · intro listed a W hI hD hall
     obtain⟨v',x2,u04,u05,u06,u07,e,u08,u09⟩:=hI.slots 2 (by decide) (hall 2 (by decide));obtain rfl:=e;have u0c:=hid u08;clear u08;have u0d:=hid u09;clear u09;obtain⟨v',x3,u00,u01,u02,u03,e,u0a,u0b⟩:=hI.slots 3 (by decide) (hall 3 (by decide));obtain rfl:=e;have u0e:=hid u0a;clear u0a;have u0f:=hid u0b;clear u0b;have x3:a.tmps[8]? = some (.agg #[.bool (ah n),.slice u00 (aa n) u01,.slice u02 (ag dn) u03]):=x3;obtain ⟨HBW,HI,HA⟩:=hz3 hI.world hI hall;clear hI hall;obtain ⟨K3,HBX⟩:=hz2 (K3.out.below HBW.out) (HB0.out.trans (HBW.out.mono HB0.out.size));have RM:=u0c;have TM:=u0d;have RQ:=u0e;have TQ:=u0f;have y4:a.tmps[4]? = some (.pointer (some ⟨w.heap.size+1+1,0,none⟩)):=HI.out.rest 4 (by decide);obtain ⟨dK30,dK31,dK32⟩:=cz3 K3.out rfl rfl rfl;obtain ⟨fK30,fK31,fK32⟩:=fz3 K3.out;refine aL (t:=0) ?_;refine ak rfl fun K' hK=>?_;go_simp;refine hK.out _ _ ?_;clear hK;refine aT ?_;have s0:∀ {v':Value} {n':Nat},RN W v' n'→RN (storeAll W (w.heap.size+1+1) 0 [.bool (ah n),.slice u00 (aa n) u01,.slice u02 (ag dn) u03]) v' n':=fun h'=>aV _ h' K3.out (by simp[bF]) (by simp[aW]);exact⟨rfl,u04,u05,u06,u07,u00,u01,u02,u03,(HI.out.finx ⟨HI.out.sx HA.out 0,HI.out.sx HA.out 1,x2,x3,trivial⟩ rfl),(au (l:=[.bool (ah n),.slice u00 (aa n) u01,.slice u02 (ag dn) u03]) (i:=0) (by omega) HBX.out),(bJ (l:=[.bool (ah n),.slice u00 (aa n) u01,.slice u02 (ag dn) u03]) (i:=0) K3.out),(s0 RQ.out),(s0 TQ.out)⟩
 rintro a' W1 ⟨u04,u05,u06,u07,u00,u01,u02,u03,rfl,z0,z1,z2,z3⟩;obtain ⟨HB1,K3,RQ,TQ⟩:=hz4 z0 z1 z2 z3;clear z0 z1 z2 z3;simp only[putL,List.setIfInBounds_toArray,List.set_cons_zero,List.set_cons_succ];go_wp2;obtain ⟨dK30,dK31,dK32⟩:=cz3 K3.out rfl rfl rfl;exact bodyPost_ret (v:=.agg #[.bool (ah n),.slice u00 (aa n) u01,.slice u02 (ag dn) u03]) (by simp[results,Tryz.results38,go_sem,dK30,dK31,dK32]) rfl ⟨_,_,_,_,rfl,RQ.out,TQ.out,HB1.out⟩
open Go.Lib (hid)
theorem z3B (n:Int)(en:Nat)(sn:ByteArray)(p1:Option Addr)(c1:Nat)(s1:Option Addr)(d1:Nat)(w:World)(h1:∀ p1 c1 W,RN W (.slice p1 (aa n) c1) n.natAbs→CR 55 #[.agg #[.bool (ah n),.slice p1 (aa n) c1]] W (.string sn))(h2:∀ s1 d1 W,RN W (.slice s1 (ag en) d1) en→CR 56 #[.slice s1 (ag en) d1] W (.string ⟨#[49]⟩))(r1:RN w (.slice p1 (aa n) c1) n.natAbs)(t1:RN w (.slice s1 (ag en) d1) en) :
 CR 28 #[.agg #[.bool (ah n),.slice p1 (aa n) c1,.slice s1 (ag en) d1]] w (.string sn):=by
 obtain ⟨C1,C2,R1,T1⟩:=hz4 h1 h2 r1 t1;clear h1 h2 r1 t1;go_enter Tryz.func28,Tryz.ntmps28
 go_upto_region 1 with fail
 refine ax w [(#[.bool (ah n),.slice p1 (aa n) c1,.slice s1 (ag en) d1],48)] rfl ?_;rintro W0 ⟨k1,hb⟩;have HB0:=hid (show Below w.heap.size w W0 from hb);obtain ⟨R1,T1,K1⟩:=hz3 (R1.out.below HB0.out) (T1.out.below HB0.out) k1;clear k1 hb;obtain ⟨dK10,dK11⟩:=cz2 K1.out rfl rfl;go_wp2_with fail
 with_reducible refine(C1.out _ _ _ R1.out).mono ?_
 rintro e W1 ⟨rfl,hb⟩;clear dK10 dK11;obtain ⟨K1,T1⟩:=hz2 (K1.out.below hb) (T1.out.below hb);have HB1:=hbt HB0 hb;clear hb;have dK12:=K1.out.cell (i:=2) rfl;go_wp2_with fail
 with_reducible refine(C2.out _ _ _ T1.out).mono ?_
 rintro e W2 ⟨rfl,hb⟩;clear dK12;have HB2:=hbt HB1 hb;clear hb;go_wp2;exact bodyPost_ret (v:=.string sn) (by simp[results,Tryz.results28,go_sem]) rfl ⟨rfl,HB2.out⟩
theorem z1w (n:Int)(en:Nat)(sn sd res:ByteArray)(hsd:(sd.toList==[49])=false)(hr:sn++(⟨#[47]⟩++sd)=res)(hl1:sn.size≤10000)(hl2:sd.size≤10000)(p1:Option Addr)(c1:Nat)(s1:Option Addr)(d1:Nat)(w:World)(h1:∀ p1 c1 W,RN W (.slice p1 (aa n) c1) n.natAbs→CR 55 #[.agg #[.bool (ah n),.slice p1 (aa n) c1]] W (.string sn))(h2:∀ s1 d1 W,RN W (.slice s1 (ag en) d1) en→CR 56 #[.slice s1 (ag en) d1] W (.string sd))(r1:RN w (.slice p1 (aa n) c1) n.natAbs)(t1:RN w (.slice s1 (ag en) d1) en) :
 CR 28 #[.agg #[.bool (ah n),.slice p1 (aa n) c1,.slice s1 (ag en) d1]] w (.string res):=by
 obtain ⟨C1,C2,R1,T1,HR,HL1,HL2⟩:=hz7 h1 h2 r1 t1 hr hl1 hl2;have k0:¬ sd.toList=[49]:=by simpa using hsd
 clear hr hl1 hl2 h1 h2 r1 t1;go_enter Tryz.func28,Tryz.ntmps28
 go_upto_region 1 with fail
 refine ax w [(#[.bool (ah n),.slice p1 (aa n) c1,.slice s1 (ag en) d1],48)] rfl ?_;rintro W0 ⟨k1,hb⟩;have HB0:=hid (show Below w.heap.size w W0 from hb);obtain ⟨R1,T1,K1⟩:=hz3 (R1.out.below HB0.out) (T1.out.below HB0.out) k1;clear k1 hb;obtain ⟨dK10,dK11⟩:=cz2 K1.out rfl rfl;go_wp2_with fail
 with_reducible refine(C1.out _ _ _ R1.out).mono ?_
 rintro e W1 ⟨rfl,hb⟩;clear dK10 dK11;obtain ⟨K1,T1⟩:=hz2 (K1.out.below hb) (T1.out.below hb);have HB1:=hbt HB0 hb;clear hb;have dK12:=K1.out.cell (i:=2) rfl;go_wp2_with fail
 with_reducible refine(C2.out _ _ _ T1.out).mono ?_
 rintro e W2 ⟨rfl,hb⟩;clear dK12;have HB2:=hbt HB1 hb;clear hb;have ha1:=run_string_add_sum (P:=Tryz.prog) W2 ⟨#[47]⟩ sd (by have:=HL2.out;have e:(⟨#[47]⟩:ByteArray).size=1:=rfl;omega);have ha2:=run_string_add_sum (P:=Tryz.prog) W2 sn (⟨#[47]⟩++sd) (by have:=HL1.out;have:=HL2.out;have e:(⟨#[47]⟩:ByteArray).size=1:=rfl;rw[ByteArray.size_append];omega);rw[HR.out]at ha2;go_wp2;exact bodyPost_ret (v:=.string res) (by simp[results,Tryz.results28,go_sem]) rfl ⟨rfl,HB2.out⟩
end Go.Proofs.YtodcdibanokjjaaGreatDoor
