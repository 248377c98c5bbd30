/- texts -/
import Derived.Test.YtlgkolkcokaefaaGreatDoorMz28q
namespace Go.Proofs.YtlgkolkcokaefaaGreatDoor
open Go.RowKit Go.Gb
def ah (z:Int):Bool:=decide (z<0)
def ag (n:Nat):Nat:=(ae n).length
def aa (z:Int):Nat:=ag z.natAbs
def RN (w:World) (v:Value) (n:Nat):Prop:=Rd .u32 w v (ae n)
theorem RN.below {w w':World}{v:Value}{n:Nat}(h:RN w v n)(hb:Below w.heap.size w w'):RN w' v n:=Rd.below h hb
theorem RN.sh {w:World}{v:Value}{n:Nat}(h:RN w v n):∃ p c,v=.slice p (ag n) c:=aR h
theorem aX {v:Value}{n g:Nat}{T:TypeId}(l:List Value){w:World}{cs:Array Value}(h:RN w v n)(hg:SBk w g cs T)(hn:bW cs=true)(hl:l.all bE=true):RN (storeAll w g 0 l) v n:=mo l 0 h hg hn hl
theorem Rz.sh {w:World}{u:Value}{z:Int}(h:Rz w u z):∃ p c,u=.agg #[.bool (ah z),.slice p (aa z) c]∧RN w (.slice p (aa z) c) z.natAbs:=iK h
theorem Rz.mk {w:World}{p:Option Addr}{c:Nat}{z:Int}(h:RN w (.slice p (aa z) c) z.natAbs):Rz w (.agg #[.bool (ah z),.slice p (aa z) c]) z:=⟨_,rfl,h⟩
def Rel.nat (n:Nat):Rel:=⟨fun v W=>∃ p c,v=.slice p (ag n) c∧RN W (.slice p (ag n) c) n,fun _ _ _ ⟨p,c,e,h⟩ hb=>⟨p,c,e,h.below hb⟩⟩
def Rel.int (z:Int):Rel:=⟨fun v W=>∃ p c,v=.agg #[.bool (ah z),.slice p (aa z) c]∧RN W (.slice p (aa z) c) z.natAbs,fun _ _ _ ⟨p,c,e,h⟩ hb=>⟨p,c,e,h.below hb⟩⟩
def HZ (w:World) (g:Nat) (z:Int):Prop:=∃ p c,SBk w g #[.bool (ah z),.slice p (aa z) c] 51∧RN w (.slice p (aa z) c) z.natAbs
theorem cCmp (v1 v2:Value)(a b:Nat)(hl:ag a≤1000000)(w:World)(h1:RN w v1 a)(h2:RN w v2 b) :
 CR 49 #[v1,v2] w (.int .i64 (cmpN a b)):=mG v1 v2 a b hl w h1 h2
theorem z5o (v1 v2:Value)(a b:Nat)(hb:b≠0)(hl:ag a≤50000)(w:World)(h1:RN w v1 a)(h2:RN w v2 b) :
 Calls Tryz.prog 72 #[v1,v2] w fun e w'=>∃ p c p' c',e=.returned (.tuple #[.slice p (ag (a / b)) c,.slice p' (ag (a%b)) c'])∧RN w' (.slice p (ag (a / b)) c) (a / b)∧RN w' (.slice p' (ag (a%b)) c') (a%b)∧Below w.heap.size w w':=by
 refine(tT v1 v2 a b hb hl w h1 h2).mono ?_;rintro e w' ⟨q,r,rfl,hq,hr,hB⟩;obtain⟨p,c,rfl⟩:=RN.sh hq;obtain⟨p',c',rfl⟩:=RN.sh hr;exact⟨p,c,p',c',rfl,hq,hr,hB⟩
theorem mW {f:FuncId}{args:Array Value}{w:World}{n:Nat}(h:Calls Tryz.prog f args w fun e w'=>∃ v,e=.returned v∧Own .u32 89 w.heap.size w' v (ae n)∧Below w.heap.size w w') :
 Calls Tryz.prog f args w fun e w'=>∃ p c,e=.returned (.slice p (ag n) c)∧RN w' (.slice p (ag n) c) n∧Below w.heap.size w w':=by
 refine h.mono ?_;rintro e w' ⟨v,rfl,ho,hb⟩;obtain⟨p,c,rfl⟩:=RN.sh ho.rd;exact⟨p,c,rfl,ho.rd,hb⟩
theorem z5n (v1 v2:Value)(a b:Nat)(hla:ag a≤100000)(hlb:ag b≤100000)(w:World)(h1:RN w v1 a)(h2:RN w v2 b) :
 Calls Tryz.prog 98 #[v1,v2] w fun e w'=>∃ p c,e=.returned (.slice p (ag (a+b)) c)∧RN w' (.slice p (ag (a+b)) c) (a+b)∧Below w.heap.size w w':=mW (z13 v1 v2 a b hla hlb w h1 h2)
theorem z2Z (v1 v2:Value)(a b:Nat)(hab:b≤a)(hla:ag a≤100000)(w:World)(h1:RN w v1 a)(h2:RN w v2 b) :
 Calls Tryz.prog 99 #[v1,v2] w fun e w'=>∃ p c,e=.returned (.slice p (ag (a-b)) c)∧RN w' (.slice p (ag (a-b)) c) (a-b)∧Below w.heap.size w w':=mW (yJ v1 v2 a b hab hla w h1 h2)
theorem nK (v1 v2:Value)(a b:Nat)(hla:ag a≤100000)(hlb:ag b≤100000)(w:World)(h1:RN w v1 a)(h2:RN w v2 b) :
 Calls Tryz.prog 83 #[v1,v2] w fun e w'=>∃ p c,e=.returned (.slice p (ag (a*b)) c)∧RN w' (.slice p (ag (a*b)) c) (a*b)∧Below w.heap.size w w':=mW (lK v1 v2 a b hla hlb w h1 h2)
theorem z4G (n:Nat)(hn:n<4294967296)(w:World) :
 Calls Tryz.prog 48 #[.int .u32 (n:Int)] w fun e w'=>∃ p c,e=.returned (.slice p (ag n) c)∧RN w' (.slice p (ag n) c) n∧Below w.heap.size w w':=mW (vg n hn w)
theorem qH (k:Int)(n:Nat)(hk:(n:Int)=k)(hn:n<4294967296)(w:World) :
 Calls Tryz.prog 48 #[.int .u32 k] w fun e w'=>∃ p c,e=.returned (.slice p (ag n) c)∧RN w' (.slice p (ag n) c) n∧Below w.heap.size w w':=by subst hk;exact z4G n hn w
theorem nL (v1 v2:Value)(a b g:Nat)(hg:Nat.gcd a b=g)(hla:ag a≤50000)(hlb:ag b≤50000)(w:World)(h1:RN w v1 a)(h2:RN w v2 b) :
 Calls Tryz.prog 51 #[v1,v2] w fun e w'=>∃ p c,e=.returned (.slice p (ag g) c)∧RN w' (.slice p (ag g) c) g∧Below w.heap.size w w':=by
 subst hg;refine(vk v1 v2 a b hla hlb w h1 h2).mono ?_;rintro e w' ⟨v,rfl,hr,hb⟩;obtain⟨p,c,rfl⟩:=RN.sh hr;exact⟨p,c,rfl,hr,hb⟩
theorem xL {f:FuncId}{args:Array Value}{w:World}{z:Int}(h:Calls Tryz.prog f args w fun e w'=>∃ u,e=.returned u∧Rz w' u z∧Below w.heap.size w w') :
 Calls Tryz.prog f args w fun e w'=>∃ p c,e=.returned (.agg #[.bool (ah z),.slice p (aa z) c])∧RN w' (.slice p (aa z) c) z.natAbs∧Below w.heap.size w w':=by
 refine h.mono ?_;rintro e w' ⟨u,rfl,hu,hb⟩;obtain⟨p,c,rfl,r⟩:=hu.sh;exact⟨p,c,rfl,r,hb⟩
theorem ma (b:Bool)(v:Value)(n:Nat)(z:Int)(hz:z=if b then -(n:Int) else (n:Int))(hl:ag n≤1000000)(w:World)(h:RN w v n) :
 Calls Tryz.prog 87 #[.bool b,v] w fun e w'=>∃ p c,e=.returned (.agg #[.bool (ah z),.slice p (aa z) c])∧RN w' (.slice p (aa z) c) z.natAbs∧Below w.heap.size w w':=xL (z4S b v n z hz hl w h)
theorem q8:ag 1=1:=by decide +kernel
theorem iY {a b:Nat}(h:a≤b):ag a≤ag b:=aN h
abbrev CZ (f : FuncId) (args : Array Value) (w : World) (z : Int) : Prop := Calls Tryz.prog f args w fun e w' => ∃ p c, e = .returned (.agg #[.bool (ah z), .slice p (aa z) c]) ∧ RN w' (.slice p (aa z) c) z.natAbs ∧ Below w.heap.size w w'
abbrev CN (f : FuncId) (args : Array Value) (w : World) (n : Nat) : Prop := Calls Tryz.prog f args w fun e w' => ∃ p c, e = .returned (.slice p (ag n) c) ∧ RN w' (.slice p (ag n) c) n ∧ Below w.heap.size w w'
abbrev CF (f : FuncId) (args : Array Value) (w : World) (z : Int) (n : Nat) : Prop := Calls Tryz.prog f args w fun e w' => ∃ p c s d, e = .returned (.agg #[.bool (ah z), .slice p (aa z) c, .slice s (ag n) d]) ∧ RN w' (.slice p (aa z) c) z.natAbs ∧ RN w' (.slice s (ag n) d) n ∧ Below w.heap.size w w'
end Go.Proofs.YtlgkolkcokaefaaGreatDoor
set_option maxRecDepth 100000
set_option maxHeartbeats 20000000
open Go.Lib (hid)
namespace Go.Proofs.YtlgkolkcokaefaaGreatDoor
open Go.RowKit Go.Gb
theorem pK {f:FuncId}{args:Array Value}{w:World}{z:Int}{b:Bool}{L:Nat}(hb:decide (z<0)=b)(hL:(ae z.natAbs).length=L)(h:Calls Tryz.prog f args w fun e w'=>∃ u,e=.returned u∧Rz w' u z∧Below w.heap.size w w') :
 Calls Tryz.prog f args w fun e w'=>∃ p c,e=.returned (.agg #[.bool b,.slice p L c])∧Rd .u32 w' (.slice p L c) (ae z.natAbs)∧Below w.heap.size w w':=by
 refine h.mono ?_;rintro e w' ⟨u,rfl,hu,hbl⟩;obtain⟨p,c,rfl,hr⟩:=iK hu;rw[hb,hL];rw[hL]at hr;exact⟨p,c,rfl,hr,hbl⟩
theorem yD (za zb z:Int)(n:Nat)(hs:(ah za==ah zb)=true)(p1:Option Addr)(c1:Nat)(p2:Option Addr)(c2:Nat)(w:World)(h1:∀ p1 c1 p2 c2 W,RN W (.slice p1 (aa za) c1) za.natAbs→RN W (.slice p2 (aa zb) c2) zb.natAbs→CN 98 #[.slice p1 (aa za) c1,.slice p2 (aa zb) c2] W n)(h2:∀ s2 d2 W,RN W (.slice s2 (ag n) d2) n→CZ 87 #[.bool (ah za),.slice s2 (ag n) d2] W z)(r1:RN w (.slice p1 (aa za) c1) za.natAbs)(r2:RN w (.slice p2 (aa zb) c2) zb.natAbs) :
 CZ 86 #[.agg #[.bool (ah za),.slice p1 (aa za) c1],.agg #[.bool (ah zb),.slice p2 (aa zb) c2]] w z:=by
 obtain ⟨C1,C2,R1,R2⟩:=aH h1 h2 r1 r2;have s0:(ah za==ah zb)=true:=hs;clear hs h1 h2 r1 r2;go_enter Tryz.func86,Tryz.ntmps86
 go_upto_region 1 with fail
 refine au w [(#[.bool (ah za),.slice p1 (aa za) c1],51),(#[.bool (ah zb),.slice p2 (aa zb) c2],51),(#[.bool false,.slice none 0 0],51)] rfl ?_;rintro W0 ⟨k1,k2,k3,hb⟩;have HB0:=hid (show Below w.heap.size w W0 from hb);obtain ⟨R1,R2,K1,K2,K3⟩:=aT (R1.out.below HB0.out) (R2.out.below HB0.out) k1 k2 k3;clear k1 k2 k3 hb;have dK10:=K1.out.cell (i:=0) rfl;have dK20:=K2.out.cell (i:=0) rfl;go_wp2_with fail
 clear dK10 dK20;refine aC (fun a0 a' V=>∃ u02 u03 u00 u01,a'=⟨putL [(10,.pointer (some ⟨w.heap.size,0,none⟩)),(11,.bool (ah za)),(12,.pointer (some ⟨w.heap.size,1,none⟩)),(13,.slice p1 (aa za) c1),(14,.pointer (some ⟨w.heap.size+1,1,none⟩)),(15,.slice p2 (aa zb) c2),(16,.slice u02 (ag n) u03),(17,.agg #[.bool (ah z),.slice u00 (aa z) u01])] a0.tmps,a0.defers⟩∧Below w.heap.size w V∧SBk V (w.heap.size+1+1) #[.bool (ah z),.slice u00 (aa z) u01] 51∧RN V (.slice u00 (aa z) u01) z.natAbs) ?_ ?_
 · refine az (by kernel_rfl) 8 1 (fun i=>[10,11,12,13,14,15,16,17].getD i 0) (RelR [Rel.val (.pointer (some ⟨w.heap.size,0,none⟩)),Rel.val (.bool (ah za)),Rel.val (.pointer (some ⟨w.heap.size,1,none⟩)),Rel.val (.slice p1 (aa za) c1),Rel.val (.pointer (some ⟨w.heap.size+1,1,none⟩)),Rel.val (.slice p2 (aa zb) c2),Rel.nat n,Rel.int z]) (fun W=>Below W0.heap.size W0 W) (fun _ _=>True) (by kernel_rfl) (by kernel_rfl) (by kernel_rfl) trivial (Below.refl _ _).drew ?_ ?_
   · intro listed a W i hI hD hrd him
     obtain ⟨HI,HD,Hr⟩:=ai hI hD hrd;clear hI hrd hD;have y2:a.tmps[2]? = some (.pointer (some ⟨w.heap.size,0,none⟩)):=HI.out.rest 2 (by decide);have y3:a.tmps[3]? = some (.pointer (some ⟨w.heap.size+1,0,none⟩)):=HI.out.rest 3 (by decide);obtain ⟨dK10,dK11⟩:=aB (K1.out.below HI.out.world) rfl rfl;have dK21:=(K2.out.below HI.out.world).cell (i:=1) rfl;have X0:RV _ listed a 0 10 (.pointer (some ⟨w.heap.size,0,none⟩)):=HI.out.rh;have X2:RV _ listed a 2 12 (.pointer (some ⟨w.heap.size,1,none⟩)):=HI.out.rh;have X4:RV _ listed a 4 14 (.pointer (some ⟨w.heap.size+1,1,none⟩)):=HI.out.rh;have X3:RV _ listed a 3 13 (.slice p1 (aa za) c1):=HI.out.rh;have X5:RV _ listed a 5 15 (.slice p2 (aa zb) c2):=HI.out.rh;have X1:RV _ listed a 1 11 (.bool (ah za)):=HI.out.rh
     match i,him,Hr with
     | 0,_,Hi =>
       refine ak rfl fun K' hK=>?_;go_simp;exact hK.out _ _ ⟨HI.out.pv Hi.out rfl,trivial⟩
     | 1,_,Hi =>
       have x0:=X0.g Hi.out (by kernel_rfl);refine ak rfl fun K' hK=>?_;go_simp;exact hK.out _ _ ⟨HI.out.pv Hi.out rfl,trivial⟩
     | 2,_,Hi =>
       refine ak rfl fun K' hK=>?_;go_simp;exact hK.out _ _ ⟨HI.out.pv Hi.out rfl,trivial⟩
     | 3,_,Hi =>
       have x2:=X2.g Hi.out (by kernel_rfl);refine ak rfl fun K' hK=>?_;go_simp;exact hK.out _ _ ⟨HI.out.pv Hi.out rfl,trivial⟩
     | 4,_,Hi =>
       refine ak rfl fun K' hK=>?_;go_simp;exact hK.out _ _ ⟨HI.out.pv Hi.out rfl,trivial⟩
     | 5,_,Hi =>
       have x4:=X4.g Hi.out (by kernel_rfl);refine ak rfl fun K' hK=>?_;go_simp;exact hK.out _ _ ⟨HI.out.pv Hi.out rfl,trivial⟩
     | 6,_,Hi =>
       have x3:=X3.g Hi.out (by kernel_rfl);have x5:=X5.g Hi.out (by kernel_rfl);refine ak rfl fun K' hK=>?_;go_simp;with_reducible refine(C1.out _ _ _ _ _ (R1.out.below HI.out.world) (R2.out.below HI.out.world)).mono ?_
       rintro e W' ⟨u02,u03,rfl,u04,hb⟩;exact hK.out _ _ ⟨HI.out.pc Hi.out hb ⟨u02,u03,rfl,u04⟩,trivial⟩
     | 7,_,Hi =>
       have x1:=X1.g Hi.out (by kernel_rfl);obtain⟨v',x6,u02,u03,e,u04⟩:=HI.out.at (i:=6) Hi.out (by kernel_rfl) (by decide);obtain rfl:=e;have x6:a.tmps[16]? = some (.slice u02 (ag n) u03):=x6;have u08:=hid u04;clear u04;refine ak rfl fun K' hK=>?_;go_simp;with_reducible refine(C2.out _ _ _ u08.out).mono ?_
       rintro e W' ⟨u00,u01,rfl,u05,hb⟩;exact hK.out _ _ ⟨HI.out.pc Hi.out hb ⟨u00,u01,rfl,u05⟩,trivial⟩
     | n+8,h,_=>exact absurd h (by omega)
   · intro listed a W hI hD hall
     obtain⟨v',x6,u02,u03,e,u04⟩:=hI.slots 6 (by decide) (hall 6 (by decide));obtain rfl:=e;have u08:=hid u04;clear u04;obtain⟨v',x7,u00,u01,e,u05⟩:=hI.slots 7 (by decide) (hall 7 (by decide));obtain rfl:=e;have u0c:=hid u05;clear u05;have x7:a.tmps[17]? = some (.agg #[.bool (ah z),.slice u00 (aa z) u01]):=x7;obtain ⟨HBW,HI,HA⟩:=ai hI.world hI hall;clear hI hall;obtain ⟨K3,HBX⟩:=aF (K3.out.below HBW.out) (HB0.out.trans (HBW.out.mono HB0.out.size));have RA:=u08;have RZ:=u0c;have y4:a.tmps[4]? = some (.pointer (some ⟨w.heap.size+1+1,0,none⟩)):=HI.out.rest 4 (by decide);obtain ⟨dK30,dK31⟩:=aB K3.out rfl rfl;obtain ⟨fK30,fK31⟩:=d9 K3.out;refine aS (t:=0) ?_;refine ak rfl fun K' hK=>?_;go_simp;refine hK.out _ _ ?_;clear hK;refine aY ?_;have s0:∀ {v':Value} {n':Nat},RN W v' n'→RN (storeAll W (w.heap.size+1+1) 0 [.bool (ah z),.slice u00 (aa z) u01]) v' n':=fun h'=>aX _ h' K3.out (by simp[bW]) (by simp[bE]);exact⟨rfl,u02,u03,u00,u01,(HI.out.finx ⟨HI.out.sx HA.out 0,HI.out.sx HA.out 1,HI.out.sx HA.out 2,HI.out.sx HA.out 3,HI.out.sx HA.out 4,HI.out.sx HA.out 5,x6,x7,trivial⟩ rfl),(ax (l:=[.bool (ah z),.slice u00 (aa z) u01]) (i:=0) (by omega) HBX.out),(bL (l:=[.bool (ah z),.slice u00 (aa z) u01]) (i:=0) K3.out),(s0 RZ.out)⟩
 rintro a' W1 ⟨u02,u03,u00,u01,rfl,z0,z1,z2⟩;obtain ⟨HB1,K3,RZ⟩:=ai z0 z1 z2;clear z0 z1 z2;simp only[putL,List.setIfInBounds_toArray,List.set_cons_zero,List.set_cons_succ];go_wp2;obtain ⟨dK30,dK31⟩:=aB K3.out rfl rfl;exact bodyPost_ret (v:=.agg #[.bool (ah z),.slice u00 (aa z) u01]) (by simp[results,Tryz.results86,go_sem,dK30,dK31]) rfl ⟨_,_,rfl,RZ.out,HB1.out⟩
theorem z2B (za zb z:Int)(n:Nat)(k:Int)(hk:0≤k)(hs:(ah za==ah zb)=false)(p1:Option Addr)(c1:Nat)(p2:Option Addr)(c2:Nat)(w:World)(h3:∀ p1 c1 p2 c2 W,RN W (.slice p1 (aa za) c1) za.natAbs→RN W (.slice p2 (aa zb) c2) zb.natAbs→CR 49 #[.slice p1 (aa za) c1,.slice p2 (aa zb) c2] W (.int .i64 k))(h4:∀ p1 c1 p2 c2 W,RN W (.slice p1 (aa za) c1) za.natAbs→RN W (.slice p2 (aa zb) c2) zb.natAbs→CN 99 #[.slice p1 (aa za) c1,.slice p2 (aa zb) c2] W n)(h2:∀ s2 d2 W,RN W (.slice s2 (ag n) d2) n→CZ 87 #[.bool (ah za),.slice s2 (ag n) d2] W z)(r1:RN w (.slice p1 (aa za) c1) za.natAbs)(r2:RN w (.slice p2 (aa zb) c2) zb.natAbs) :
 CZ 86 #[.agg #[.bool (ah za),.slice p1 (aa za) c1],.agg #[.bool (ah zb),.slice p2 (aa zb) c2]] w z:=by
 obtain ⟨C3,C4,C2,R1,R2⟩:=aT h3 h4 h2 r1 r2;have s0:(ah za==ah zb)=false:=hs;clear hs;have k0:decide (0≤k)=true:=decide_eq_true hk;have k1:0≤k:=hk;clear hk h3 h4 h2 r1 r2;go_enter Tryz.func86,Tryz.ntmps86
 go_upto_region 1 with fail
 refine au w [(#[.bool (ah za),.slice p1 (aa za) c1],51),(#[.bool (ah zb),.slice p2 (aa zb) c2],51),(#[.bool false,.slice none 0 0],51)] rfl ?_;rintro W0 ⟨k1,k2,k3,hb⟩;have HB0:=hid (show Below w.heap.size w W0 from hb);obtain ⟨R1,R2,K1,K2,K3⟩:=aT (R1.out.below HB0.out) (R2.out.below HB0.out) k1 k2 k3;clear k1 k2 k3 hb;have dK10:=K1.out.cell (i:=0) rfl;have dK20:=K2.out.cell (i:=0) rfl;have dK11:=K1.out.cell (i:=1) rfl;have dK21:=K2.out.cell (i:=1) rfl;go_wp2_with fail
 with_reducible refine(C3.out _ _ _ _ _ R1.out R2.out).mono ?_
 rintro e W1 ⟨rfl,hb⟩;clear dK10 dK20 dK11 dK21;obtain ⟨K1,K2,K3,R1,R2⟩:=aT (K1.out.below hb) (K2.out.below hb) (K3.out.below hb) (R1.out.below hb) (R2.out.below hb);have HB1:=hbt HB0 hb;clear hb;go_wp2_with fail
 refine aC (fun a0 a' V=>∃ u02 u03 u00 u01,a'=⟨putL [(24,.pointer (some ⟨w.heap.size,0,none⟩)),(25,.bool (ah za)),(26,.pointer (some ⟨w.heap.size,1,none⟩)),(27,.slice p1 (aa za) c1),(28,.pointer (some ⟨w.heap.size+1,1,none⟩)),(29,.slice p2 (aa zb) c2),(30,.slice u02 (ag n) u03),(31,.agg #[.bool (ah z),.slice u00 (aa z) u01])] a0.tmps,a0.defers⟩∧Below w.heap.size w V∧SBk V (w.heap.size+1+1) #[.bool (ah z),.slice u00 (aa z) u01] 51∧RN V (.slice u00 (aa z) u01) z.natAbs) ?_ ?_
 · refine az (by kernel_rfl) 8 1 (fun i=>[24,25,26,27,28,29,30,31].getD i 0) (RelR [Rel.val (.pointer (some ⟨w.heap.size,0,none⟩)),Rel.val (.bool (ah za)),Rel.val (.pointer (some ⟨w.heap.size,1,none⟩)),Rel.val (.slice p1 (aa za) c1),Rel.val (.pointer (some ⟨w.heap.size+1,1,none⟩)),Rel.val (.slice p2 (aa zb) c2),Rel.nat n,Rel.int z]) (fun W=>Below W1.heap.size W1 W) (fun _ _=>True) (by kernel_rfl) (by kernel_rfl) (by kernel_rfl) trivial (Below.refl _ _).drew ?_ ?_
   · intro listed a W i hI hD hrd him
     obtain ⟨HI,HD,Hr⟩:=ai hI hD hrd;clear hI hrd hD;have y2:a.tmps[2]? = some (.pointer (some ⟨w.heap.size,0,none⟩)):=HI.out.rest 2 (by decide);have y3:a.tmps[3]? = some (.pointer (some ⟨w.heap.size+1,0,none⟩)):=HI.out.rest 3 (by decide);obtain ⟨dK10,dK11⟩:=aB (K1.out.below HI.out.world) rfl rfl;have dK21:=(K2.out.below HI.out.world).cell (i:=1) rfl;have X0:RV _ listed a 0 24 (.pointer (some ⟨w.heap.size,0,none⟩)):=HI.out.rh;have X2:RV _ listed a 2 26 (.pointer (some ⟨w.heap.size,1,none⟩)):=HI.out.rh;have X4:RV _ listed a 4 28 (.pointer (some ⟨w.heap.size+1,1,none⟩)):=HI.out.rh;have X3:RV _ listed a 3 27 (.slice p1 (aa za) c1):=HI.out.rh;have X5:RV _ listed a 5 29 (.slice p2 (aa zb) c2):=HI.out.rh;have X1:RV _ listed a 1 25 (.bool (ah za)):=HI.out.rh
     match i,him,Hr with
     | 0,_,Hi =>
       refine ak rfl fun K' hK=>?_;go_simp;exact hK.out _ _ ⟨HI.out.pv Hi.out rfl,trivial⟩
     | 1,_,Hi =>
       have x0:=X0.g Hi.out (by kernel_rfl);refine ak rfl fun K' hK=>?_;go_simp;exact hK.out _ _ ⟨HI.out.pv Hi.out rfl,trivial⟩
     | 2,_,Hi =>
       refine ak rfl fun K' hK=>?_;go_simp;exact hK.out _ _ ⟨HI.out.pv Hi.out rfl,trivial⟩
     | 3,_,Hi =>
       have x2:=X2.g Hi.out (by kernel_rfl);refine ak rfl fun K' hK=>?_;go_simp;exact hK.out _ _ ⟨HI.out.pv Hi.out rfl,trivial⟩
     | 4,_,Hi =>
       refine ak rfl fun K' hK=>?_;go_simp;exact hK.out _ _ ⟨HI.out.pv Hi.out rfl,trivial⟩
     | 5,_,Hi =>
       have x4:=X4.g Hi.out (by kernel_rfl);refine ak rfl fun K' hK=>?_;go_simp;exact hK.out _ _ ⟨HI.out.pv Hi.out rfl,trivial⟩
     | 6,_,Hi =>
       have x3:=X3.g Hi.out (by kernel_rfl);have x5:=X5.g Hi.out (by kernel_rfl);refine ak rfl fun K' hK=>?_;go_simp;with_reducible refine(C4.out _ _ _ _ _ (R1.out.below HI.out.world) (R2.out.below HI.out.world)).mono ?_
       rintro e W' ⟨u02,u03,rfl,u04,hb⟩;exact hK.out _ _ ⟨HI.out.pc Hi.out hb ⟨u02,u03,rfl,u04⟩,trivial⟩
     | 7,_,Hi =>
       have x1:=X1.g Hi.out (by kernel_rfl);obtain⟨v',x6,u02,u03,e,u04⟩:=HI.out.at (i:=6) Hi.out (by kernel_rfl) (by decide);obtain rfl:=e;have x6:a.tmps[30]? = some (.slice u02 (ag n) u03):=x6;have u08:=hid u04;clear u04;refine ak rfl fun K' hK=>?_;go_simp;with_reducible refine(C2.out _ _ _ u08.out).mono ?_
       rintro e W' ⟨u00,u01,rfl,u05,hb⟩;exact hK.out _ _ ⟨HI.out.pc Hi.out hb ⟨u00,u01,rfl,u05⟩,trivial⟩
     | n+8,h,_=>exact absurd h (by omega)
   · intro listed a W hI hD hall
     obtain⟨v',x6,u02,u03,e,u04⟩:=hI.slots 6 (by decide) (hall 6 (by decide));obtain rfl:=e;have u08:=hid u04;clear u04;obtain⟨v',x7,u00,u01,e,u05⟩:=hI.slots 7 (by decide) (hall 7 (by decide));obtain rfl:=e;have u0c:=hid u05;clear u05;have x7:a.tmps[31]? = some (.agg #[.bool (ah z),.slice u00 (aa z) u01]):=x7;obtain ⟨HBW,HI,HA⟩:=ai hI.world hI hall;clear hI hall;obtain ⟨K3,HBX⟩:=aF (K3.out.below HBW.out) (HB1.out.trans (HBW.out.mono HB1.out.size));have RA:=u08;have RZ:=u0c;have y4:a.tmps[4]? = some (.pointer (some ⟨w.heap.size+1+1,0,none⟩)):=HI.out.rest 4 (by decide);obtain ⟨dK30,dK31⟩:=aB K3.out rfl rfl;obtain ⟨fK30,fK31⟩:=d9 K3.out;refine aS (t:=0) ?_;refine ak rfl fun K' hK=>?_;go_simp;refine hK.out _ _ ?_;clear hK;refine aY ?_;have s0:∀ {v':Value} {n':Nat},RN W v' n'→RN (storeAll W (w.heap.size+1+1) 0 [.bool (ah z),.slice u00 (aa z) u01]) v' n':=fun h'=>aX _ h' K3.out (by simp[bW]) (by simp[bE]);exact⟨rfl,u02,u03,u00,u01,(HI.out.finx ⟨HI.out.sx HA.out 0,HI.out.sx HA.out 1,HI.out.sx HA.out 2,HI.out.sx HA.out 3,HI.out.sx HA.out 4,HI.out.sx HA.out 5,x6,x7,trivial⟩ rfl),(ax (l:=[.bool (ah z),.slice u00 (aa z) u01]) (i:=0) (by omega) HBX.out),(bL (l:=[.bool (ah z),.slice u00 (aa z) u01]) (i:=0) K3.out),(s0 RZ.out)⟩
 rintro a' W2 ⟨u02,u03,u00,u01,rfl,z0,z1,z2⟩;obtain ⟨HB2,K3,RZ⟩:=ai z0 z1 z2;clear z0 z1 z2;simp only[putL,List.setIfInBounds_toArray,List.set_cons_zero,List.set_cons_succ];go_wp2;obtain ⟨dK30,dK31⟩:=aB K3.out rfl rfl;exact bodyPost_ret (v:=.agg #[.bool (ah z),.slice u00 (aa z) u01]) (by simp[results,Tryz.results86,go_sem,dK30,dK31]) rfl ⟨_,_,rfl,RZ.out,HB2.out⟩
theorem z2A (za zb z:Int)(n:Nat)(k:Int)(hk:k<0)(hs:(ah za==ah zb)=false)(p1:Option Addr)(c1:Nat)(p2:Option Addr)(c2:Nat)(w:World)(h3:∀ p1 c1 p2 c2 W,RN W (.slice p1 (aa za) c1) za.natAbs→RN W (.slice p2 (aa zb) c2) zb.natAbs→CR 49 #[.slice p1 (aa za) c1,.slice p2 (aa zb) c2] W (.int .i64 k))(h4:∀ p1 c1 p2 c2 W,RN W (.slice p1 (aa zb) c1) zb.natAbs→RN W (.slice p2 (aa za) c2) za.natAbs→CN 99 #[.slice p1 (aa zb) c1,.slice p2 (aa za) c2] W n)(h2:∀ s2 d2 W,RN W (.slice s2 (ag n) d2) n→CZ 87 #[.bool (ah zb),.slice s2 (ag n) d2] W z)(r1:RN w (.slice p1 (aa za) c1) za.natAbs)(r2:RN w (.slice p2 (aa zb) c2) zb.natAbs) :
 CZ 86 #[.agg #[.bool (ah za),.slice p1 (aa za) c1],.agg #[.bool (ah zb),.slice p2 (aa zb) c2]] w z:=by
 obtain ⟨C3,C4,C2,R1,R2⟩:=aT h3 h4 h2 r1 r2;have s0:(ah za==ah zb)=false:=hs;clear hs;have k0:decide (0≤k)=false:=decide_eq_false (by omega);have k1:¬ 0≤k:=by omega
 clear hk h3 h4 h2 r1 r2;go_enter Tryz.func86,Tryz.ntmps86
 go_upto_region 1 with fail
 refine au w [(#[.bool (ah za),.slice p1 (aa za) c1],51),(#[.bool (ah zb),.slice p2 (aa zb) c2],51),(#[.bool false,.slice none 0 0],51)] rfl ?_;rintro W0 ⟨k1,k2,k3,hb⟩;have HB0:=hid (show Below w.heap.size w W0 from hb);obtain ⟨R1,R2,K1,K2,K3⟩:=aT (R1.out.below HB0.out) (R2.out.below HB0.out) k1 k2 k3;clear k1 k2 k3 hb;have dK10:=K1.out.cell (i:=0) rfl;have dK20:=K2.out.cell (i:=0) rfl;have dK11:=K1.out.cell (i:=1) rfl;have dK21:=K2.out.cell (i:=1) rfl;go_wp2_with fail
 with_reducible refine(C3.out _ _ _ _ _ R1.out R2.out).mono ?_
 rintro e W1 ⟨rfl,hb⟩;clear dK10 dK20 dK11 dK21;obtain ⟨K1,K2,K3,R1,R2⟩:=aT (K1.out.below hb) (K2.out.below hb) (K3.out.below hb) (R1.out.below hb) (R2.out.below hb);have HB1:=hbt HB0 hb;clear hb;go_wp2_with fail
 refine aC (fun a0 a' V=>∃ u02 u03 u00 u01,a'=⟨putL [(32,.pointer (some ⟨w.heap.size+1,0,none⟩)),(33,.bool (ah zb)),(34,.pointer (some ⟨w.heap.size+1,1,none⟩)),(35,.slice p2 (aa zb) c2),(36,.pointer (some ⟨w.heap.size,1,none⟩)),(37,.slice p1 (aa za) c1),(38,.slice u02 (ag n) u03),(39,.agg #[.bool (ah z),.slice u00 (aa z) u01])] a0.tmps,a0.defers⟩∧Below w.heap.size w V∧SBk V (w.heap.size+1+1) #[.bool (ah z),.slice u00 (aa z) u01] 51∧RN V (.slice u00 (aa z) u01) z.natAbs) ?_ ?_
 · refine az (by kernel_rfl) 8 1 (fun i=>[32,33,34,35,36,37,38,39].getD i 0) (RelR [Rel.val (.pointer (some ⟨w.heap.size+1,0,none⟩)),Rel.val (.bool (ah zb)),Rel.val (.pointer (some ⟨w.heap.size+1,1,none⟩)),Rel.val (.slice p2 (aa zb) c2),Rel.val (.pointer (some ⟨w.heap.size,1,none⟩)),Rel.val (.slice p1 (aa za) c1),Rel.nat n,Rel.int z]) (fun W=>Below W1.heap.size W1 W) (fun _ _=>True) (by kernel_rfl) (by kernel_rfl) (by kernel_rfl) trivial (Below.refl _ _).drew ?_ ?_
   · intro listed a W i hI hD hrd him
     obtain ⟨HI,HD,Hr⟩:=ai hI hD hrd;clear hI hrd hD;have y3:a.tmps[3]? = some (.pointer (some ⟨w.heap.size+1,0,none⟩)):=HI.out.rest 3 (by decide);have y2:a.tmps[2]? = some (.pointer (some ⟨w.heap.size,0,none⟩)):=HI.out.rest 2 (by decide);obtain ⟨dK20,dK21⟩:=aB (K2.out.below HI.out.world) rfl rfl;have dK11:=(K1.out.below HI.out.world).cell (i:=1) rfl;have X0:RV _ listed a 0 32 (.pointer (some ⟨w.heap.size+1,0,none⟩)):=HI.out.rh;have X2:RV _ listed a 2 34 (.pointer (some ⟨w.heap.size+1,1,none⟩)):=HI.out.rh;have X4:RV _ listed a 4 36 (.pointer (some ⟨w.heap.size,1,none⟩)):=HI.out.rh;have X3:RV _ listed a 3 35 (.slice p2 (aa zb) c2):=HI.out.rh;have X5:RV _ listed a 5 37 (.slice p1 (aa za) c1):=HI.out.rh;have X1:RV _ listed a 1 33 (.bool (ah zb)):=HI.out.rh
     match i,him,Hr with
     | 0,_,Hi =>
       refine ak rfl fun K' hK=>?_;go_simp;exact hK.out _ _ ⟨HI.out.pv Hi.out rfl,trivial⟩
     | 1,_,Hi =>
       have x0:=X0.g Hi.out (by kernel_rfl);refine ak rfl fun K' hK=>?_;go_simp;exact hK.out _ _ ⟨HI.out.pv Hi.out rfl,trivial⟩
     | 2,_,Hi =>
       refine ak rfl fun K' hK=>?_;go_simp;exact hK.out _ _ ⟨HI.out.pv Hi.out rfl,trivial⟩
     | 3,_,Hi =>
       have x2:=X2.g Hi.out (by kernel_rfl);refine ak rfl fun K' hK=>?_;go_simp;exact hK.out _ _ ⟨HI.out.pv Hi.out rfl,trivial⟩
     | 4,_,Hi =>
       refine ak rfl fun K' hK=>?_;go_simp;exact hK.out _ _ ⟨HI.out.pv Hi.out rfl,trivial⟩
     | 5,_,Hi =>
       have x4:=X4.g Hi.out (by kernel_rfl);refine ak rfl fun K' hK=>?_;go_simp;exact hK.out _ _ ⟨HI.out.pv Hi.out rfl,trivial⟩
     | 6,_,Hi =>
       have x3:=X3.g Hi.out (by kernel_rfl);have x5:=X5.g Hi.out (by kernel_rfl);refine ak rfl fun K' hK=>?_;go_simp;with_reducible refine(C4.out _ _ _ _ _ (R2.out.below HI.out.world) (R1.out.below HI.out.world)).mono ?_
       rintro e W' ⟨u02,u03,rfl,u04,hb⟩;exact hK.out _ _ ⟨HI.out.pc Hi.out hb ⟨u02,u03,rfl,u04⟩,trivial⟩
     | 7,_,Hi =>
       have x1:=X1.g Hi.out (by kernel_rfl);obtain⟨v',x6,u02,u03,e,u04⟩:=HI.out.at (i:=6) Hi.out (by kernel_rfl) (by decide);obtain rfl:=e;have x6:a.tmps[38]? = some (.slice u02 (ag n) u03):=x6;have u08:=hid u04;clear u04;refine ak rfl fun K' hK=>?_;go_simp;with_reducible refine(C2.out _ _ _ u08.out).mono ?_
       rintro e W' ⟨u00,u01,rfl,u05,hb⟩;exact hK.out _ _ ⟨HI.out.pc Hi.out hb ⟨u00,u01,rfl,u05⟩,trivial⟩
     | n+8,h,_=>exact absurd h (by omega)
   · intro listed a W hI hD hall
     obtain⟨v',x6,u02,u03,e,u04⟩:=hI.slots 6 (by decide) (hall 6 (by decide));obtain rfl:=e;have u08:=hid u04;clear u04;obtain⟨v',x7,u00,u01,e,u05⟩:=hI.slots 7 (by decide) (hall 7 (by decide));obtain rfl:=e;have u0c:=hid u05;clear u05;have x7:a.tmps[39]? = some (.agg #[.bool (ah z),.slice u00 (aa z) u01]):=x7;obtain ⟨HBW,HI,HA⟩:=ai hI.world hI hall;clear hI hall;obtain ⟨K3,HBX⟩:=aF (K3.out.below HBW.out) (HB1.out.trans (HBW.out.mono HB1.out.size));have RA:=u08;have RZ:=u0c;have y4:a.tmps[4]? = some (.pointer (some ⟨w.heap.size+1+1,0,none⟩)):=HI.out.rest 4 (by decide);obtain ⟨dK30,dK31⟩:=aB K3.out rfl rfl;obtain ⟨fK30,fK31⟩:=d9 K3.out;refine aS (t:=0) ?_;refine ak rfl fun K' hK=>?_;go_simp;refine hK.out _ _ ?_;clear hK;refine aY ?_;have s0:∀ {v':Value} {n':Nat},RN W v' n'→RN (storeAll W (w.heap.size+1+1) 0 [.bool (ah z),.slice u00 (aa z) u01]) v' n':=fun h'=>aX _ h' K3.out (by simp[bW]) (by simp[bE]);exact⟨rfl,u02,u03,u00,u01,(HI.out.finx ⟨HI.out.sx HA.out 0,HI.out.sx HA.out 1,HI.out.sx HA.out 2,HI.out.sx HA.out 3,HI.out.sx HA.out 4,HI.out.sx HA.out 5,x6,x7,trivial⟩ rfl),(ax (l:=[.bool (ah z),.slice u00 (aa z) u01]) (i:=0) (by omega) HBX.out),(bL (l:=[.bool (ah z),.slice u00 (aa z) u01]) (i:=0) K3.out),(s0 RZ.out)⟩
 rintro a' W2 ⟨u02,u03,u00,u01,rfl,z0,z1,z2⟩;obtain ⟨HB2,K3,RZ⟩:=ai z0 z1 z2;clear z0 z1 z2;simp only[putL,List.setIfInBounds_toArray,List.set_cons_zero,List.set_cons_succ];go_wp2;obtain ⟨dK30,dK31⟩:=aB K3.out rfl rfl;exact bodyPost_ret (v:=.agg #[.bool (ah z),.slice u00 (aa z) u01]) (by simp[results,Tryz.results86,go_sem,dK30,dK31]) rfl ⟨_,_,rfl,RZ.out,HB2.out⟩
theorem yC (za zb z:Int)(n:Nat)(p1:Option Addr)(c1:Nat)(p2:Option Addr)(c2:Nat)(w:World)(h1:∀ p1 c1 p2 c2 W,RN W (.slice p1 (aa za) c1) za.natAbs→RN W (.slice p2 (aa zb) c2) zb.natAbs→CN 83 #[.slice p1 (aa za) c1,.slice p2 (aa zb) c2] W n)(h2:∀ s2 d2 W,RN W (.slice s2 (ag n) d2) n→CZ 87 #[.bool (ah za != ah zb),.slice s2 (ag n) d2] W z)(r1:RN w (.slice p1 (aa za) c1) za.natAbs)(r2:RN w (.slice p2 (aa zb) c2) zb.natAbs) :
 CZ 82 #[.agg #[.bool (ah za),.slice p1 (aa za) c1],.agg #[.bool (ah zb),.slice p2 (aa zb) c2]] w z:=by
 obtain ⟨C1,C2,R1,R2⟩:=aH h1 h2 r1 r2;clear h1 h2 r1 r2;go_enter Tryz.func82,Tryz.ntmps82
 go_upto_region 1 with fail
 refine au w [(#[.bool (ah za),.slice p1 (aa za) c1],51),(#[.bool (ah zb),.slice p2 (aa zb) c2],51),(#[.bool false,.slice none 0 0],51)] rfl ?_;rintro W0 ⟨k1,k2,k3,hb⟩;have HB0:=hid (show Below w.heap.size w W0 from hb);obtain ⟨R1,R2,K1,K2,K3⟩:=aT (R1.out.below HB0.out) (R2.out.below HB0.out) k1 k2 k3;clear k1 k2 k3 hb;go_wp2_with fail
 refine aC (fun a0 a' V=>∃ u09 u0a u06 u07,a'=⟨putL [(5,.pointer (some ⟨w.heap.size,0,none⟩)),(6,.bool (ah za)),(7,.pointer (some ⟨w.heap.size+1,0,none⟩)),(8,.bool (ah zb)),(9,.bool (ah za != ah zb)),(10,.pointer (some ⟨w.heap.size,1,none⟩)),(11,.slice p1 (aa za) c1),(12,.pointer (some ⟨w.heap.size+1,1,none⟩)),(13,.slice p2 (aa zb) c2),(14,.slice u09 (ag n) u0a),(15,.agg #[.bool (ah z),.slice u06 (aa z) u07])] a0.tmps,a0.defers⟩∧Below w.heap.size w V∧SBk V (w.heap.size+1+1) #[.bool (ah z),.slice u06 (aa z) u07] 51∧RN V (.slice u06 (aa z) u07) z.natAbs) ?_ ?_
 · refine az (by kernel_rfl) 11 1 (fun i=>[5,6,7,8,9,10,11,12,13,14,15].getD i 0) (RelR [Rel.val (.pointer (some ⟨w.heap.size,0,none⟩)),Rel.val (.bool (ah za)),Rel.val (.pointer (some ⟨w.heap.size+1,0,none⟩)),Rel.val (.bool (ah zb)),Rel.val (.bool (ah za != ah zb)),Rel.val (.pointer (some ⟨w.heap.size,1,none⟩)),Rel.val (.slice p1 (aa za) c1),Rel.val (.pointer (some ⟨w.heap.size+1,1,none⟩)),Rel.val (.slice p2 (aa zb) c2),Rel.nat n,Rel.int z]) (fun W=>Below W0.heap.size W0 W) (fun _ _=>True) (by kernel_rfl) (by kernel_rfl) (by kernel_rfl) trivial (Below.refl _ _).drew ?_ ?_
   · intro listed a W i hI hD hrd him
     obtain ⟨HI,HD,Hr⟩:=ai hI hD hrd;clear hI hrd hD;have y2:a.tmps[2]? = some (.pointer (some ⟨w.heap.size,0,none⟩)):=HI.out.rest 2 (by decide);have y3:a.tmps[3]? = some (.pointer (some ⟨w.heap.size+1,0,none⟩)):=HI.out.rest 3 (by decide);have dK10:=(K1.out.below HI.out.world).cell (i:=0) rfl;have dK20:=(K2.out.below HI.out.world).cell (i:=0) rfl;have dK11:=(K1.out.below HI.out.world).cell (i:=1) rfl;have dK21:=(K2.out.below HI.out.world).cell (i:=1) rfl;have X0:RV _ listed a 0 5 (.pointer (some ⟨w.heap.size,0,none⟩)):=HI.out.rh;have X2:RV _ listed a 2 7 (.pointer (some ⟨w.heap.size+1,0,none⟩)):=HI.out.rh;have X1:RV _ listed a 1 6 (.bool (ah za)):=HI.out.rh;have X3:RV _ listed a 3 8 (.bool (ah zb)):=HI.out.rh;have X5:RV _ listed a 5 10 (.pointer (some ⟨w.heap.size,1,none⟩)):=HI.out.rh;have X7:RV _ listed a 7 12 (.pointer (some ⟨w.heap.size+1,1,none⟩)):=HI.out.rh;have X6:RV _ listed a 6 11 (.slice p1 (aa za) c1):=HI.out.rh;have X8:RV _ listed a 8 13 (.slice p2 (aa zb) c2):=HI.out.rh;have X4:RV _ listed a 4 9 (.bool (ah za != ah zb)):=HI.out.rh
     match i,him,Hr with
     | 0,_,Hi =>
       refine ak rfl fun K' hK=>?_;go_simp;exact hK.out _ _ ⟨HI.out.pv Hi.out rfl,trivial⟩
     | 1,_,Hi =>
       have x0:=X0.g Hi.out (by kernel_rfl);refine ak rfl fun K' hK=>?_;go_simp;exact hK.out _ _ ⟨HI.out.pv Hi.out rfl,trivial⟩
     | 2,_,Hi =>
       refine ak rfl fun K' hK=>?_;go_simp;exact hK.out _ _ ⟨HI.out.pv Hi.out rfl,trivial⟩
     | 3,_,Hi =>
       have x2:=X2.g Hi.out (by kernel_rfl);refine ak rfl fun K' hK=>?_;go_simp;exact hK.out _ _ ⟨HI.out.pv Hi.out rfl,trivial⟩
     | 4,_,Hi =>
       have x1:=X1.g Hi.out (by kernel_rfl);have x3:=X3.g Hi.out (by kernel_rfl);refine ak rfl fun K' hK=>?_;go_simp;exact hK.out _ _ ⟨HI.out.pv Hi.out rfl,trivial⟩
     | 5,_,Hi =>
       refine ak rfl fun K' hK=>?_;go_simp;exact hK.out _ _ ⟨HI.out.pv Hi.out rfl,trivial⟩
     | 6,_,Hi =>
       have x5:=X5.g Hi.out (by kernel_rfl);refine ak rfl fun K' hK=>?_;go_simp;exact hK.out _ _ ⟨HI.out.pv Hi.out rfl,trivial⟩
     | 7,_,Hi =>
       refine ak rfl fun K' hK=>?_;go_simp;exact hK.out _ _ ⟨HI.out.pv Hi.out rfl,trivial⟩
     | 8,_,Hi =>
       have x7:=X7.g Hi.out (by kernel_rfl);refine ak rfl fun K' hK=>?_;go_simp;exact hK.out _ _ ⟨HI.out.pv Hi.out rfl,trivial⟩
     | 9,_,Hi =>
       have x6:=X6.g Hi.out (by kernel_rfl);have x8:=X8.g Hi.out (by kernel_rfl);refine ak rfl fun K' hK=>?_;go_simp;with_reducible refine(C1.out _ _ _ _ _ (R1.out.below HI.out.world) (R2.out.below HI.out.world)).mono ?_
       rintro e W' ⟨u09,u0a,rfl,u0b,hb⟩;exact hK.out _ _ ⟨HI.out.pc Hi.out hb ⟨u09,u0a,rfl,u0b⟩,trivial⟩
     | 10,_,Hi =>
       have x4:=X4.g Hi.out (by kernel_rfl);obtain⟨v',x9,u09,u0a,e,u0b⟩:=HI.out.at (i:=9) Hi.out (by kernel_rfl) (by decide);obtain rfl:=e;have x9:a.tmps[14]? = some (.slice u09 (ag n) u0a):=x9;have u0e:=hid u0b;clear u0b;refine ak rfl fun K' hK=>?_;go_simp;with_reducible refine(C2.out _ _ _ u0e.out).mono ?_
       rintro e W' ⟨u06,u07,rfl,u0d,hb⟩;exact hK.out _ _ ⟨HI.out.pc Hi.out hb ⟨u06,u07,rfl,u0d⟩,trivial⟩
     | n+11,h,_=>exact absurd h (by omega)
   · intro listed a W hI hD hall
     obtain⟨v',x9,u09,u0a,e,u0b⟩:=hI.slots 9 (by decide) (hall 9 (by decide));obtain rfl:=e;have u0e:=hid u0b;clear u0b;obtain⟨v',x10,u06,u07,e,u0d⟩:=hI.slots 10 (by decide) (hall 10 (by decide));obtain rfl:=e;have u0f:=hid u0d;clear u0d;have x10:a.tmps[15]? = some (.agg #[.bool (ah z),.slice u06 (aa z) u07]):=x10;obtain ⟨HBW,HI,HA⟩:=ai hI.world hI hall;clear hI hall;obtain ⟨K3,HBX⟩:=aF (K3.out.below HBW.out) (HB0.out.trans (HBW.out.mono HB0.out.size));have RA:=u0e;have RZ:=u0f;have y4:a.tmps[4]? = some (.pointer (some ⟨w.heap.size+1+1,0,none⟩)):=HI.out.rest 4 (by decide);obtain ⟨dK30,dK31⟩:=aB K3.out rfl rfl;obtain ⟨fK30,fK31⟩:=d9 K3.out;refine aS (t:=0) ?_;refine ak rfl fun K' hK=>?_;go_simp;refine hK.out _ _ ?_;clear hK;refine aY ?_;have s0:∀ {v':Value} {n':Nat},RN W v' n'→RN (storeAll W (w.heap.size+1+1) 0 [.bool (ah z),.slice u06 (aa z) u07]) v' n':=fun h'=>aX _ h' K3.out (by simp[bW]) (by simp[bE]);exact⟨rfl,u09,u0a,u06,u07,(HI.out.finx ⟨HI.out.sx HA.out 0,HI.out.sx HA.out 1,HI.out.sx HA.out 2,HI.out.sx HA.out 3,HI.out.sx HA.out 4,HI.out.sx HA.out 5,HI.out.sx HA.out 6,HI.out.sx HA.out 7,HI.out.sx HA.out 8,x9,x10,trivial⟩ rfl),(ax (l:=[.bool (ah z),.slice u06 (aa z) u07]) (i:=0) (by omega) HBX.out),(bL (l:=[.bool (ah z),.slice u06 (aa z) u07]) (i:=0) K3.out),(s0 RZ.out)⟩
 rintro a' W1 ⟨u09,u0a,u06,u07,rfl,z0,z1,z2⟩;obtain ⟨HB1,K3,RZ⟩:=ai z0 z1 z2;clear z0 z1 z2;simp only[putL,List.setIfInBounds_toArray,List.set_cons_zero,List.set_cons_succ];go_wp2;obtain ⟨dK30,dK31⟩:=aB K3.out rfl rfl;exact bodyPost_ret (v:=.agg #[.bool (ah z),.slice u06 (aa z) u07]) (by simp[results,Tryz.results82,go_sem,dK30,dK31]) rfl ⟨_,_,rfl,RZ.out,HB1.out⟩
end Go.Proofs.YtlgkolkcokaefaaGreatDoor
