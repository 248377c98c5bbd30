/- texts -/
import Derived.Test.YthbdjinlcgnebaaGreatDoorMz27q
namespace Go.Proofs.YthbdjinlcgnebaaGreatDoor
open Go.RowKit Go.Gb
def au (z:Int):Bool:=decide (z<0)
def ai (n:Nat):Nat:=(aa n).length
def ah (z:Int):Nat:=ai z.natAbs
def RN (w:World) (v:Value) (n:Nat):Prop:=Rd .u32 w v (aa n)
theorem RN.below {w w':World}{v:Value}{n:Nat}(h:RN w v n)(hb:Below w.heap.size w w'):RN w' v n:=Rd.below h hb
theorem RN.sh {w:World}{v:Value}{n:Nat}(h:RN w v n):∃ p c,v=.slice p (ai n) c:=aU h
theorem bB {v:Value}{n g:Nat}{T:TypeId}(l:List Value){w:World}{cs:Array Value}(h:RN w v n)(hg:SBk w g cs T)(hn:bZ cs=true)(hl:l.all bD=true):RN (storeAll w g 0 l) v n:=mG l 0 h hg hn hl
theorem Rz.sh {w:World}{u:Value}{z:Int}(h:Rz w u z):∃ p c,u=.agg #[.bool (au z),.slice p (ah z) c]∧RN w (.slice p (ah z) c) z.natAbs:=qg h
theorem Rz.mk {w:World}{p:Option Addr}{c:Nat}{z:Int}(h:RN w (.slice p (ah z) c) z.natAbs):Rz w (.agg #[.bool (au z),.slice p (ah z) c]) z:=⟨_,rfl,h⟩
def Rel.nat (n:Nat):Rel:=⟨fun v W=>∃ p c,v=.slice p (ai n) c∧RN W (.slice p (ai n) c) n,fun _ _ _ ⟨p,c,e,h⟩ hb=>⟨p,c,e,h.below hb⟩⟩
def Rel.int (z:Int):Rel:=⟨fun v W=>∃ p c,v=.agg #[.bool (au z),.slice p (ah z) c]∧RN W (.slice p (ah z) c) z.natAbs,fun _ _ _ ⟨p,c,e,h⟩ hb=>⟨p,c,e,h.below hb⟩⟩
def HZ (w:World) (g:Nat) (z:Int):Prop:=∃ p c,SBk w g #[.bool (au z),.slice p (ah z) c] 59∧RN w (.slice p (ah z) c) z.natAbs
theorem cCmp (v1 v2:Value)(a b:Nat)(hl:ai a≤1000000)(w:World)(h1:RN w v1 a)(h2:RN w v2 b) :
 CR 66 #[v1,v2] w (.int .i64 (cmpN a b)):=mP v1 v2 a b hl w h1 h2
theorem z5e (v1 v2:Value)(a b:Nat)(hb:b≠0)(hl:ai a≤50000)(w:World)(h1:RN w v1 a)(h2:RN w v2 b) :
 Calls Tryz.prog 87 #[v1,v2] w fun e w'=>∃ p c p' c',e=.returned (.tuple #[.slice p (ai (a / b)) c,.slice p' (ai (a%b)) c'])∧RN w' (.slice p (ai (a / b)) c) (a / b)∧RN w' (.slice p' (ai (a%b)) c') (a%b)∧Below w.heap.size w w':=by
 refine(tX v1 v2 a b hb hl w h1 h2).mono ?_;rintro e w' ⟨q,r,rfl,hq,hr,hB⟩;obtain⟨p,c,rfl⟩:=RN.sh hq;obtain⟨p',c',rfl⟩:=RN.sh hr;exact⟨p,c,p',c',rfl,hq,hr,hB⟩
theorem nC {f:FuncId}{args:Array Value}{w:World}{n:Nat}(h:Calls Tryz.prog f args w fun e w'=>∃ v,e=.returned v∧Own .u32 96 w.heap.size w' v (aa n)∧Below w.heap.size w w') :
 Calls Tryz.prog f args w fun e w'=>∃ p c,e=.returned (.slice p (ai n) c)∧RN w' (.slice p (ai n) c) n∧Below w.heap.size w w':=by
 refine h.mono ?_;rintro e w' ⟨v,rfl,ho,hb⟩;obtain⟨p,c,rfl⟩:=RN.sh ho.rd;exact⟨p,c,rfl,ho.rd,hb⟩
theorem z5d (v1 v2:Value)(a b:Nat)(hla:ai a≤100000)(hlb:ai b≤100000)(w:World)(h1:RN w v1 a)(h2:RN w v2 b) :
 Calls Tryz.prog 106 #[v1,v2] w fun e w'=>∃ p c,e=.returned (.slice p (ai (a+b)) c)∧RN w' (.slice p (ai (a+b)) c) (a+b)∧Below w.heap.size w w':=nC (z0I v1 v2 a b hla hlb w h1 h2)
theorem z2S (v1 v2:Value)(a b:Nat)(hab:b≤a)(hla:ai a≤100000)(w:World)(h1:RN w v1 a)(h2:RN w v2 b) :
 Calls Tryz.prog 107 #[v1,v2] w fun e w'=>∃ p c,e=.returned (.slice p (ai (a-b)) c)∧RN w' (.slice p (ai (a-b)) c) (a-b)∧Below w.heap.size w w':=nC (yM v1 v2 a b hab hla w h1 h2)
theorem tu (v1 v2:Value)(a b:Nat)(hla:ai a≤100000)(hlb:ai b≤100000)(w:World)(h1:RN w v1 a)(h2:RN w v2 b) :
 Calls Tryz.prog 80 #[v1,v2] w fun e w'=>∃ p c,e=.returned (.slice p (ai (a*b)) c)∧RN w' (.slice p (ai (a*b)) c) (a*b)∧Below w.heap.size w w':=nC (lT v1 v2 a b hla hlb w h1 h2)
theorem z4t (n:Nat)(hn:n<4294967296)(w:World) :
 Calls Tryz.prog 65 #[.int .u32 (n:Int)] w fun e w'=>∃ p c,e=.returned (.slice p (ai n) c)∧RN w' (.slice p (ai n) c) n∧Below w.heap.size w w':=nC (vF n hn w)
theorem qV (k:Int)(n:Nat)(hk:(n:Int)=k)(hn:n<4294967296)(w:World) :
 Calls Tryz.prog 65 #[.int .u32 k] w fun e w'=>∃ p c,e=.returned (.slice p (ai n) c)∧RN w' (.slice p (ai n) c) n∧Below w.heap.size w w':=by subst hk;exact z4t n hn w
theorem nU (v1 v2:Value)(a b g:Nat)(hg:Nat.gcd a b=g)(hla:ai a≤50000)(hlb:ai b≤50000)(w:World)(h1:RN w v1 a)(h2:RN w v2 b) :
 Calls Tryz.prog 68 #[v1,v2] w fun e w'=>∃ p c,e=.returned (.slice p (ai g) c)∧RN w' (.slice p (ai g) c) g∧Below w.heap.size w w':=by
 subst hg;refine(vG v1 v2 a b hla hlb w h1 h2).mono ?_;rintro e w' ⟨v,rfl,hr,hb⟩;obtain⟨p,c,rfl⟩:=RN.sh hr;exact⟨p,c,rfl,hr,hb⟩
theorem xO {f:FuncId}{args:Array Value}{w:World}{z:Int}(h:Calls Tryz.prog f args w fun e w'=>∃ u,e=.returned u∧Rz w' u z∧Below w.heap.size w w') :
 Calls Tryz.prog f args w fun e w'=>∃ p c,e=.returned (.agg #[.bool (au z),.slice p (ah z) c])∧RN w' (.slice p (ah z) c) z.natAbs∧Below w.heap.size w w':=by
 refine h.mono ?_;rintro e w' ⟨u,rfl,hu,hb⟩;obtain⟨p,c,rfl,r⟩:=hu.sh;exact⟨p,c,rfl,r,hb⟩
theorem qW (b:Bool)(v:Value)(n:Nat)(z:Int)(hz:z=if b then -(n:Int) else (n:Int))(hl:ai n≤1000000)(w:World)(h:RN w v n) :
 Calls Tryz.prog 79 #[.bool b,v] w fun e w'=>∃ p c,e=.returned (.agg #[.bool (au z),.slice p (ah z) c])∧RN w' (.slice p (ah z) c) z.natAbs∧Below w.heap.size w w':=xO (z4H b v n z hz hl w h)
theorem qA:ai 1=1:=by decide +kernel
theorem je {a b:Nat}(h:a≤b):ai a≤ai b:=aM h
instance {W W':World}{v:Value}{n:Nat}:Gr (RN W v n) W W' (RN W' v n):=⟨fun h k=>k.below h⟩
abbrev CZ (f : FuncId) (args : Array Value) (w : World) (z : Int) : Prop := Calls Tryz.prog f args w fun e w' => ∃ p c, e = .returned (.agg #[.bool (au z), .slice p (ah z) c]) ∧ RN w' (.slice p (ah z) c) z.natAbs ∧ Below w.heap.size w w'
abbrev CN (f : FuncId) (args : Array Value) (w : World) (n : Nat) : Prop := Calls Tryz.prog f args w fun e w' => ∃ p c, e = .returned (.slice p (ai n) c) ∧ RN w' (.slice p (ai n) c) n ∧ Below w.heap.size w w'
abbrev CF (f : FuncId) (args : Array Value) (w : World) (z : Int) (n : Nat) : Prop := Calls Tryz.prog f args w fun e w' => ∃ p c s d, e = .returned (.agg #[.bool (au z), .slice p (ah z) c, .slice s (ai n) d]) ∧ RN w' (.slice p (ah z) c) z.natAbs ∧ RN w' (.slice s (ai n) d) n ∧ Below w.heap.size w w'
end Go.Proofs.YthbdjinlcgnebaaGreatDoor
set_option maxRecDepth 100000
set_option maxHeartbeats 20000000
open Go.Lib (hid)
namespace Go.Proofs.YthbdjinlcgnebaaGreatDoor
open Go.RowKit Go.Gb
theorem yH (za zb z:Int)(n:Nat)(hs:(au za==au zb)=true)(p1:Option Addr)(c1:Nat)(p2:Option Addr)(c2:Nat)(w:World)(h1:∀ p1 c1 p2 c2 W,RN W (.slice p1 (ah za) c1) za.natAbs→RN W (.slice p2 (ah zb) c2) zb.natAbs→CN 106 #[.slice p1 (ah za) c1,.slice p2 (ah zb) c2] W n)(h2:∀ s2 d2 W,RN W (.slice s2 (ai n) d2) n→CZ 79 #[.bool (au za),.slice s2 (ai n) d2] W z)(r1:RN w (.slice p1 (ah za) c1) za.natAbs)(r2:RN w (.slice p2 (ah zb) c2) zb.natAbs) :
 CZ 78 #[.agg #[.bool (au za),.slice p1 (ah za) c1],.agg #[.bool (au zb),.slice p2 (ah zb) c2]] w z:=by
 obtain ⟨C1,C2,R1,R2⟩:=aP h1 h2 r1 r2;have s0:(au za==au zb)=true:=hs;clear hs h1 h2 r1 r2;go_enter Tryz.func78,Tryz.ntmps78
 go_upto_region 1 with fail
 refine ak w [(#[.bool (au za),.slice p1 (ah za) c1],59),(#[.bool (au zb),.slice p2 (ah zb) c2],59),(#[.bool false,.slice none 0 0],59)] rfl ?_;rintro W0 ⟨k1,k2,k3,hb⟩;have rf:=hid (show Below w.heap.size w W0 from hb);obtain ⟨R1,R2⟩:=aO rf.out R1 R2;obtain ⟨K1,K2,K3⟩:=ae k1 k2 k3;clear k1 k2 k3 hb;have ma:=K1.out.cell (i:=0) rfl;have l5:=K2.out.cell (i:=0) rfl;go_wp2_with fail
 clear ma l5;refine aB (fun a0 a' V=>∃ wu ww u6 w9,a'=⟨aV [(10,.pointer (some ⟨w.heap.size,0,none⟩)),(11,.bool (au za)),(12,.pointer (some ⟨w.heap.size,1,none⟩)),(13,.slice p1 (ah za) c1),(14,.pointer (some ⟨w.heap.size+1,1,none⟩)),(15,.slice p2 (ah zb) c2),(16,.slice wu (ai n) ww),(17,.agg #[.bool (au z),.slice u6 (ah z) w9])] a0.tmps,a0.defers⟩∧Below w.heap.size w V∧SBk V (w.heap.size+1+1) #[.bool (au z),.slice u6 (ah z) w9] 59∧RN V (.slice u6 (ah z) w9) z.natAbs) ?_ ?_
 · refine ay (by kernel_rfl) 8 1 (fun i=>[10,11,12,13,14,15,16,17].getD i 0) (RelR [Rel.val (.pointer (some ⟨w.heap.size,0,none⟩)),Rel.val (.bool (au za)),Rel.val (.pointer (some ⟨w.heap.size,1,none⟩)),Rel.val (.slice p1 (ah za) c1),Rel.val (.pointer (some ⟨w.heap.size+1,1,none⟩)),Rel.val (.slice p2 (ah zb) c2),Rel.nat n,Rel.int z]) (fun W=>Below W0.heap.size W0 W) (fun _ _=>True) (by kernel_rfl) (by kernel_rfl) (by kernel_rfl) trivial (Below.refl _ _).drew ?_ ?_
   · intro wo a W i hI hD hrd him
     obtain ⟨HI,HD,Hr⟩:=ae hI hD hrd;clear hI hrd hD;have y2:a.tmps[2]? = some (.pointer (some ⟨w.heap.size,0,none⟩)):=HI.out.rest 2 (by decide);have y3:a.tmps[3]? = some (.pointer (some ⟨w.heap.size+1,0,none⟩)):=HI.out.rest 3 (by decide);obtain ⟨ma,l6⟩:=bH (K1.out.below HI.out.world) rfl rfl;have lg:=(K2.out.below HI.out.world).cell (i:=1) rfl;have X0:RV _ wo a 0 10 (.pointer (some ⟨w.heap.size,0,none⟩)):=HI.out.rh;have X2:RV _ wo a 2 12 (.pointer (some ⟨w.heap.size,1,none⟩)):=HI.out.rh;have X4:RV _ wo a 4 14 (.pointer (some ⟨w.heap.size+1,1,none⟩)):=HI.out.rh;have X3:RV _ wo a 3 13 (.slice p1 (ah za) c1):=HI.out.rh;have X5:RV _ wo a 5 15 (.slice p2 (ah zb) c2):=HI.out.rh;have X1:RV _ wo a 1 11 (.bool (au za)):=HI.out.rh
     match i,him,Hr with
     | 0,_,Hi|1,_,Hi|2,_,Hi|3,_,Hi|4,_,Hi|5,_,Hi =>
       try have x0:=X0.g Hi.out (by decide +kernel)
       try have x2:=X2.g Hi.out (by decide +kernel)
       try have x4:=X4.g Hi.out (by decide +kernel)
       refine ax rfl fun K' hK=>?_;go_simp;exact hK.out _ _ ⟨HI.out.pv Hi.out rfl,trivial⟩
     | 6,_,Hi =>
       have x3:=X3.g Hi.out (by kernel_rfl);have x5:=X5.g Hi.out (by kernel_rfl);refine ax rfl fun K' hK=>?_;go_simp;with_reducible refine(C1.out _ _ _ _ _ (R1.out.below HI.out.world) (R2.out.below HI.out.world)).mono ?_
       rintro e W' ⟨wu,ww,rfl,wy,hb⟩;exact hK.out _ _ ⟨HI.out.pc Hi.out hb ⟨wu,ww,rfl,wy⟩,trivial⟩
     | 7,_,Hi =>
       have x1:=X1.g Hi.out (by kernel_rfl);obtain⟨v',x6,wu,ww,e,wy⟩:=HI.out.at (i:=6) Hi.out (by kernel_rfl) (by decide);obtain rfl:=e;have x6:a.tmps[16]? = some (.slice wu (ai n) ww):=x6;have p8:=hid wy;clear wy;refine ax rfl fun K' hK=>?_;go_simp;with_reducible refine(C2.out _ _ _ p8.out).mono ?_
       rintro e W' ⟨u6,w9,rfl,sw,hb⟩;exact hK.out _ _ ⟨HI.out.pc Hi.out hb ⟨u6,w9,rfl,sw⟩,trivial⟩
     | n+8,h,_=>exact absurd h (by omega)
   · intro wo a W hI hD wz
     obtain⟨v',x6,wu,ww,e,wy⟩:=hI.slots 6 (by decide) (wz 6 (by decide));obtain rfl:=e;have p8:=hid wy;clear wy;obtain⟨v',x7,u6,w9,e,sw⟩:=hI.slots 7 (by decide) (wz 7 (by decide));obtain rfl:=e;have kz:=hid sw;clear sw;have x7:a.tmps[17]? = some (.agg #[.bool (au z),.slice u6 (ah z) w9]):=x7;obtain ⟨pq,HI,HA⟩:=ae hI.world hI wz;clear hI wz;obtain ⟨lv,K3⟩:=aD (rf.out.trans (pq.out.mono rf.out.size)) (K3.out.below pq.out);have RA:=p8;have RZ:=kz;have y4:a.tmps[4]? = some (.pointer (some ⟨w.heap.size+1+1,0,none⟩)):=HI.out.rest 4 (by decide);obtain ⟨ol,oM⟩:=bH K3.out rfl rfl;obtain ⟨kD,kE⟩:=fP K3.out;refine aL (t:=0) ?_;refine ax rfl fun K' hK=>?_;go_simp;refine hK.out _ _ ?_;clear hK;refine aR ?_;have s0:∀ {v':Value} {n':Nat},RN W v' n'→RN (storeAll W (w.heap.size+1+1) 0 [.bool (au z),.slice u6 (ah z) w9]) v' n':=fun h'=>bB _ h' K3.out (by simp[bZ]) (by simp[bD]);exact⟨rfl,wu,ww,u6,w9,(HI.out.finx ⟨HI.out.sx HA.out 0,HI.out.sx HA.out 1,HI.out.sx HA.out 2,HI.out.sx HA.out 3,HI.out.sx HA.out 4,HI.out.sx HA.out 5,x6,x7,trivial⟩ rfl),(av (l:=[.bool (au z),.slice u6 (ah z) w9]) (i:=0) (by omega) lv.out),(bO (l:=[.bool (au z),.slice u6 (ah z) w9]) (i:=0) K3.out),(s0 RZ.out)⟩
 rintro a' W1 ⟨wu,ww,u6,w9,rfl,z0,z1,z2⟩;obtain ⟨oV,K3,RZ⟩:=ae z0 z1 z2;clear z0 z1 z2;simp only[aV,List.setIfInBounds_toArray,List.set_cons_zero,List.set_cons_succ];go_wp2;obtain ⟨ol,oM⟩:=bH K3.out rfl rfl;exact bodyPost_ret (v:=.agg #[.bool (au z),.slice u6 (ah z) w9]) (by simp[results,Tryz.results78,go_sem,ol,oM]) rfl ⟨_,_,rfl,RZ.out,oV.out⟩
theorem z2m (za zb z:Int)(n:Nat)(k:Int)(hk:0≤k)(hs:(au za==au zb)=false)(p1:Option Addr)(c1:Nat)(p2:Option Addr)(c2:Nat)(w:World)(h3:∀ p1 c1 p2 c2 W,RN W (.slice p1 (ah za) c1) za.natAbs→RN W (.slice p2 (ah zb) c2) zb.natAbs→CR 66 #[.slice p1 (ah za) c1,.slice p2 (ah zb) c2] W (.int .i64 k))(h4:∀ p1 c1 p2 c2 W,RN W (.slice p1 (ah za) c1) za.natAbs→RN W (.slice p2 (ah zb) c2) zb.natAbs→CN 107 #[.slice p1 (ah za) c1,.slice p2 (ah zb) c2] W n)(h2:∀ s2 d2 W,RN W (.slice s2 (ai n) d2) n→CZ 79 #[.bool (au za),.slice s2 (ai n) d2] W z)(r1:RN w (.slice p1 (ah za) c1) za.natAbs)(r2:RN w (.slice p2 (ah zb) c2) zb.natAbs) :
 CZ 78 #[.agg #[.bool (au za),.slice p1 (ah za) c1],.agg #[.bool (au zb),.slice p2 (ah zb) c2]] w z:=by
 obtain ⟨C3,C4,C2,R1,R2⟩:=bI h3 h4 h2 r1 r2;have s0:(au za==au zb)=false:=hs;clear hs;have k0:decide (0≤k)=true:=decide_eq_true hk;have k1:0≤k:=hk;clear hk h3 h4 h2 r1 r2;go_enter Tryz.func78,Tryz.ntmps78
 go_upto_region 1 with fail
 refine ak w [(#[.bool (au za),.slice p1 (ah za) c1],59),(#[.bool (au zb),.slice p2 (ah zb) c2],59),(#[.bool false,.slice none 0 0],59)] rfl ?_;rintro W0 ⟨k1,k2,k3,hb⟩;have rf:=hid (show Below w.heap.size w W0 from hb);obtain ⟨R1,R2⟩:=aO rf.out R1 R2;obtain ⟨K1,K2,K3⟩:=ae k1 k2 k3;clear k1 k2 k3 hb;have ma:=K1.out.cell (i:=0) rfl;have l5:=K2.out.cell (i:=0) rfl;have l6:=K1.out.cell (i:=1) rfl;have lg:=K2.out.cell (i:=1) rfl;go_wp2_with fail
 with_reducible refine(C3.out _ _ _ _ _ R1.out R2.out).mono ?_
 rintro e W1 ⟨rfl,hb⟩;clear ma l5 l6 lg;obtain ⟨K1,K2,K3,R1,R2⟩:=bS hb K1 K2 K3 R1 R2;have oV:=hbt rf hb;clear hb;go_wp2_with fail
 refine aB (fun a0 a' V=>∃ wu ww u6 w9,a'=⟨aV [(24,.pointer (some ⟨w.heap.size,0,none⟩)),(25,.bool (au za)),(26,.pointer (some ⟨w.heap.size,1,none⟩)),(27,.slice p1 (ah za) c1),(28,.pointer (some ⟨w.heap.size+1,1,none⟩)),(29,.slice p2 (ah zb) c2),(30,.slice wu (ai n) ww),(31,.agg #[.bool (au z),.slice u6 (ah z) w9])] a0.tmps,a0.defers⟩∧Below w.heap.size w V∧SBk V (w.heap.size+1+1) #[.bool (au z),.slice u6 (ah z) w9] 59∧RN V (.slice u6 (ah z) w9) z.natAbs) ?_ ?_
 · refine ay (by kernel_rfl) 8 1 (fun i=>[24,25,26,27,28,29,30,31].getD i 0) (RelR [Rel.val (.pointer (some ⟨w.heap.size,0,none⟩)),Rel.val (.bool (au za)),Rel.val (.pointer (some ⟨w.heap.size,1,none⟩)),Rel.val (.slice p1 (ah za) c1),Rel.val (.pointer (some ⟨w.heap.size+1,1,none⟩)),Rel.val (.slice p2 (ah zb) c2),Rel.nat n,Rel.int z]) (fun W=>Below W1.heap.size W1 W) (fun _ _=>True) (by kernel_rfl) (by kernel_rfl) (by kernel_rfl) trivial (Below.refl _ _).drew ?_ ?_
   · intro wo a W i hI hD hrd him
     obtain ⟨HI,HD,Hr⟩:=ae hI hD hrd;clear hI hrd hD;have y2:a.tmps[2]? = some (.pointer (some ⟨w.heap.size,0,none⟩)):=HI.out.rest 2 (by decide);have y3:a.tmps[3]? = some (.pointer (some ⟨w.heap.size+1,0,none⟩)):=HI.out.rest 3 (by decide);obtain ⟨ma,l6⟩:=bH (K1.out.below HI.out.world) rfl rfl;have lg:=(K2.out.below HI.out.world).cell (i:=1) rfl;have X0:RV _ wo a 0 24 (.pointer (some ⟨w.heap.size,0,none⟩)):=HI.out.rh;have X2:RV _ wo a 2 26 (.pointer (some ⟨w.heap.size,1,none⟩)):=HI.out.rh;have X4:RV _ wo a 4 28 (.pointer (some ⟨w.heap.size+1,1,none⟩)):=HI.out.rh;have X3:RV _ wo a 3 27 (.slice p1 (ah za) c1):=HI.out.rh;have X5:RV _ wo a 5 29 (.slice p2 (ah zb) c2):=HI.out.rh;have X1:RV _ wo a 1 25 (.bool (au za)):=HI.out.rh
     match i,him,Hr with
     | 0,_,Hi|1,_,Hi|2,_,Hi|3,_,Hi|4,_,Hi|5,_,Hi =>
       try have x0:=X0.g Hi.out (by decide +kernel)
       try have x2:=X2.g Hi.out (by decide +kernel)
       try have x4:=X4.g Hi.out (by decide +kernel)
       refine ax rfl fun K' hK=>?_;go_simp;exact hK.out _ _ ⟨HI.out.pv Hi.out rfl,trivial⟩
     | 6,_,Hi =>
       have x3:=X3.g Hi.out (by kernel_rfl);have x5:=X5.g Hi.out (by kernel_rfl);refine ax rfl fun K' hK=>?_;go_simp;with_reducible refine(C4.out _ _ _ _ _ (R1.out.below HI.out.world) (R2.out.below HI.out.world)).mono ?_
       rintro e W' ⟨wu,ww,rfl,wy,hb⟩;exact hK.out _ _ ⟨HI.out.pc Hi.out hb ⟨wu,ww,rfl,wy⟩,trivial⟩
     | 7,_,Hi =>
       have x1:=X1.g Hi.out (by kernel_rfl);obtain⟨v',x6,wu,ww,e,wy⟩:=HI.out.at (i:=6) Hi.out (by kernel_rfl) (by decide);obtain rfl:=e;have x6:a.tmps[30]? = some (.slice wu (ai n) ww):=x6;have p8:=hid wy;clear wy;refine ax rfl fun K' hK=>?_;go_simp;with_reducible refine(C2.out _ _ _ p8.out).mono ?_
       rintro e W' ⟨u6,w9,rfl,sw,hb⟩;exact hK.out _ _ ⟨HI.out.pc Hi.out hb ⟨u6,w9,rfl,sw⟩,trivial⟩
     | n+8,h,_=>exact absurd h (by omega)
   · intro wo a W hI hD wz
     obtain⟨v',x6,wu,ww,e,wy⟩:=hI.slots 6 (by decide) (wz 6 (by decide));obtain rfl:=e;have p8:=hid wy;clear wy;obtain⟨v',x7,u6,w9,e,sw⟩:=hI.slots 7 (by decide) (wz 7 (by decide));obtain rfl:=e;have kz:=hid sw;clear sw;have x7:a.tmps[31]? = some (.agg #[.bool (au z),.slice u6 (ah z) w9]):=x7;obtain ⟨pq,HI,HA⟩:=ae hI.world hI wz;clear hI wz;obtain ⟨lv,K3⟩:=aD (oV.out.trans (pq.out.mono oV.out.size)) (K3.out.below pq.out);have RA:=p8;have RZ:=kz;have y4:a.tmps[4]? = some (.pointer (some ⟨w.heap.size+1+1,0,none⟩)):=HI.out.rest 4 (by decide);obtain ⟨ol,oM⟩:=bH K3.out rfl rfl;obtain ⟨kD,kE⟩:=fP K3.out;refine aL (t:=0) ?_;refine ax rfl fun K' hK=>?_;go_simp;refine hK.out _ _ ?_;clear hK;refine aR ?_;have s0:∀ {v':Value} {n':Nat},RN W v' n'→RN (storeAll W (w.heap.size+1+1) 0 [.bool (au z),.slice u6 (ah z) w9]) v' n':=fun h'=>bB _ h' K3.out (by simp[bZ]) (by simp[bD]);exact⟨rfl,wu,ww,u6,w9,(HI.out.finx ⟨HI.out.sx HA.out 0,HI.out.sx HA.out 1,HI.out.sx HA.out 2,HI.out.sx HA.out 3,HI.out.sx HA.out 4,HI.out.sx HA.out 5,x6,x7,trivial⟩ rfl),(av (l:=[.bool (au z),.slice u6 (ah z) w9]) (i:=0) (by omega) lv.out),(bO (l:=[.bool (au z),.slice u6 (ah z) w9]) (i:=0) K3.out),(s0 RZ.out)⟩
 rintro a' W2 ⟨wu,ww,u6,w9,rfl,z0,z1,z2⟩;obtain ⟨kK,K3,RZ⟩:=ae z0 z1 z2;clear z0 z1 z2;simp only[aV,List.setIfInBounds_toArray,List.set_cons_zero,List.set_cons_succ];go_wp2;obtain ⟨ol,oM⟩:=bH K3.out rfl rfl;exact bodyPost_ret (v:=.agg #[.bool (au z),.slice u6 (ah z) w9]) (by simp[results,Tryz.results78,go_sem,ol,oM]) rfl ⟨_,_,rfl,RZ.out,kK.out⟩
theorem z2l (za zb z:Int)(n:Nat)(k:Int)(hk:k<0)(hs:(au za==au zb)=false)(p1:Option Addr)(c1:Nat)(p2:Option Addr)(c2:Nat)(w:World)(h3:∀ p1 c1 p2 c2 W,RN W (.slice p1 (ah za) c1) za.natAbs→RN W (.slice p2 (ah zb) c2) zb.natAbs→CR 66 #[.slice p1 (ah za) c1,.slice p2 (ah zb) c2] W (.int .i64 k))(h4:∀ p1 c1 p2 c2 W,RN W (.slice p1 (ah zb) c1) zb.natAbs→RN W (.slice p2 (ah za) c2) za.natAbs→CN 107 #[.slice p1 (ah zb) c1,.slice p2 (ah za) c2] W n)(h2:∀ s2 d2 W,RN W (.slice s2 (ai n) d2) n→CZ 79 #[.bool (au zb),.slice s2 (ai n) d2] W z)(r1:RN w (.slice p1 (ah za) c1) za.natAbs)(r2:RN w (.slice p2 (ah zb) c2) zb.natAbs) :
 CZ 78 #[.agg #[.bool (au za),.slice p1 (ah za) c1],.agg #[.bool (au zb),.slice p2 (ah zb) c2]] w z:=by
 obtain ⟨C3,C4,C2,R1,R2⟩:=bI h3 h4 h2 r1 r2;have s0:(au za==au zb)=false:=hs;clear hs;have k0:decide (0≤k)=false:=decide_eq_false (by omega);have k1:¬ 0≤k:=by omega
 clear hk h3 h4 h2 r1 r2;go_enter Tryz.func78,Tryz.ntmps78
 go_upto_region 1 with fail
 refine ak w [(#[.bool (au za),.slice p1 (ah za) c1],59),(#[.bool (au zb),.slice p2 (ah zb) c2],59),(#[.bool false,.slice none 0 0],59)] rfl ?_;rintro W0 ⟨k1,k2,k3,hb⟩;have rf:=hid (show Below w.heap.size w W0 from hb);obtain ⟨R1,R2⟩:=aO rf.out R1 R2;obtain ⟨K1,K2,K3⟩:=ae k1 k2 k3;clear k1 k2 k3 hb;have ma:=K1.out.cell (i:=0) rfl;have l5:=K2.out.cell (i:=0) rfl;have l6:=K1.out.cell (i:=1) rfl;have lg:=K2.out.cell (i:=1) rfl;go_wp2_with fail
 with_reducible refine(C3.out _ _ _ _ _ R1.out R2.out).mono ?_
 rintro e W1 ⟨rfl,hb⟩;clear ma l5 l6 lg;obtain ⟨K1,K2,K3,R1,R2⟩:=bS hb K1 K2 K3 R1 R2;have oV:=hbt rf hb;clear hb;go_wp2_with fail
 refine aB (fun a0 a' V=>∃ wu ww u6 w9,a'=⟨aV [(32,.pointer (some ⟨w.heap.size+1,0,none⟩)),(33,.bool (au zb)),(34,.pointer (some ⟨w.heap.size+1,1,none⟩)),(35,.slice p2 (ah zb) c2),(36,.pointer (some ⟨w.heap.size,1,none⟩)),(37,.slice p1 (ah za) c1),(38,.slice wu (ai n) ww),(39,.agg #[.bool (au z),.slice u6 (ah z) w9])] a0.tmps,a0.defers⟩∧Below w.heap.size w V∧SBk V (w.heap.size+1+1) #[.bool (au z),.slice u6 (ah z) w9] 59∧RN V (.slice u6 (ah z) w9) z.natAbs) ?_ ?_
 · refine ay (by kernel_rfl) 8 1 (fun i=>[32,33,34,35,36,37,38,39].getD i 0) (RelR [Rel.val (.pointer (some ⟨w.heap.size+1,0,none⟩)),Rel.val (.bool (au zb)),Rel.val (.pointer (some ⟨w.heap.size+1,1,none⟩)),Rel.val (.slice p2 (ah zb) c2),Rel.val (.pointer (some ⟨w.heap.size,1,none⟩)),Rel.val (.slice p1 (ah za) c1),Rel.nat n,Rel.int z]) (fun W=>Below W1.heap.size W1 W) (fun _ _=>True) (by kernel_rfl) (by kernel_rfl) (by kernel_rfl) trivial (Below.refl _ _).drew ?_ ?_
   · intro wo a W i hI hD hrd him
     obtain ⟨HI,HD,Hr⟩:=ae hI hD hrd;clear hI hrd hD;have y3:a.tmps[3]? = some (.pointer (some ⟨w.heap.size+1,0,none⟩)):=HI.out.rest 3 (by decide);have y2:a.tmps[2]? = some (.pointer (some ⟨w.heap.size,0,none⟩)):=HI.out.rest 2 (by decide);obtain ⟨l5,lg⟩:=bH (K2.out.below HI.out.world) rfl rfl;have l6:=(K1.out.below HI.out.world).cell (i:=1) rfl;have X0:RV _ wo a 0 32 (.pointer (some ⟨w.heap.size+1,0,none⟩)):=HI.out.rh;have X2:RV _ wo a 2 34 (.pointer (some ⟨w.heap.size+1,1,none⟩)):=HI.out.rh;have X4:RV _ wo a 4 36 (.pointer (some ⟨w.heap.size,1,none⟩)):=HI.out.rh;have X3:RV _ wo a 3 35 (.slice p2 (ah zb) c2):=HI.out.rh;have X5:RV _ wo a 5 37 (.slice p1 (ah za) c1):=HI.out.rh;have X1:RV _ wo a 1 33 (.bool (au zb)):=HI.out.rh
     match i,him,Hr with
     | 0,_,Hi|1,_,Hi|2,_,Hi|3,_,Hi|4,_,Hi|5,_,Hi =>
       try have x0:=X0.g Hi.out (by decide +kernel)
       try have x2:=X2.g Hi.out (by decide +kernel)
       try have x4:=X4.g Hi.out (by decide +kernel)
       refine ax rfl fun K' hK=>?_;go_simp;exact hK.out _ _ ⟨HI.out.pv Hi.out rfl,trivial⟩
     | 6,_,Hi =>
       have x3:=X3.g Hi.out (by kernel_rfl);have x5:=X5.g Hi.out (by kernel_rfl);refine ax rfl fun K' hK=>?_;go_simp;with_reducible refine(C4.out _ _ _ _ _ (R2.out.below HI.out.world) (R1.out.below HI.out.world)).mono ?_
       rintro e W' ⟨wu,ww,rfl,wy,hb⟩;exact hK.out _ _ ⟨HI.out.pc Hi.out hb ⟨wu,ww,rfl,wy⟩,trivial⟩
     | 7,_,Hi =>
       have x1:=X1.g Hi.out (by kernel_rfl);obtain⟨v',x6,wu,ww,e,wy⟩:=HI.out.at (i:=6) Hi.out (by kernel_rfl) (by decide);obtain rfl:=e;have x6:a.tmps[38]? = some (.slice wu (ai n) ww):=x6;have p8:=hid wy;clear wy;refine ax rfl fun K' hK=>?_;go_simp;with_reducible refine(C2.out _ _ _ p8.out).mono ?_
       rintro e W' ⟨u6,w9,rfl,sw,hb⟩;exact hK.out _ _ ⟨HI.out.pc Hi.out hb ⟨u6,w9,rfl,sw⟩,trivial⟩
     | n+8,h,_=>exact absurd h (by omega)
   · intro wo a W hI hD wz
     obtain⟨v',x6,wu,ww,e,wy⟩:=hI.slots 6 (by decide) (wz 6 (by decide));obtain rfl:=e;have p8:=hid wy;clear wy;obtain⟨v',x7,u6,w9,e,sw⟩:=hI.slots 7 (by decide) (wz 7 (by decide));obtain rfl:=e;have kz:=hid sw;clear sw;have x7:a.tmps[39]? = some (.agg #[.bool (au z),.slice u6 (ah z) w9]):=x7;obtain ⟨pq,HI,HA⟩:=ae hI.world hI wz;clear hI wz;obtain ⟨lv,K3⟩:=aD (oV.out.trans (pq.out.mono oV.out.size)) (K3.out.below pq.out);have RA:=p8;have RZ:=kz;have y4:a.tmps[4]? = some (.pointer (some ⟨w.heap.size+1+1,0,none⟩)):=HI.out.rest 4 (by decide);obtain ⟨ol,oM⟩:=bH K3.out rfl rfl;obtain ⟨kD,kE⟩:=fP K3.out;refine aL (t:=0) ?_;refine ax rfl fun K' hK=>?_;go_simp;refine hK.out _ _ ?_;clear hK;refine aR ?_;have s0:∀ {v':Value} {n':Nat},RN W v' n'→RN (storeAll W (w.heap.size+1+1) 0 [.bool (au z),.slice u6 (ah z) w9]) v' n':=fun h'=>bB _ h' K3.out (by simp[bZ]) (by simp[bD]);exact⟨rfl,wu,ww,u6,w9,(HI.out.finx ⟨HI.out.sx HA.out 0,HI.out.sx HA.out 1,HI.out.sx HA.out 2,HI.out.sx HA.out 3,HI.out.sx HA.out 4,HI.out.sx HA.out 5,x6,x7,trivial⟩ rfl),(av (l:=[.bool (au z),.slice u6 (ah z) w9]) (i:=0) (by omega) lv.out),(bO (l:=[.bool (au z),.slice u6 (ah z) w9]) (i:=0) K3.out),(s0 RZ.out)⟩
 rintro a' W2 ⟨wu,ww,u6,w9,rfl,z0,z1,z2⟩;obtain ⟨kK,K3,RZ⟩:=ae z0 z1 z2;clear z0 z1 z2;simp only[aV,List.setIfInBounds_toArray,List.set_cons_zero,List.set_cons_succ];go_wp2;obtain ⟨ol,oM⟩:=bH K3.out rfl rfl;exact bodyPost_ret (v:=.agg #[.bool (au z),.slice u6 (ah z) w9]) (by simp[results,Tryz.results78,go_sem,ol,oM]) rfl ⟨_,_,rfl,RZ.out,kK.out⟩
theorem yG (za zb z:Int)(n:Nat)(p1:Option Addr)(c1:Nat)(p2:Option Addr)(c2:Nat)(w:World)(h1:∀ p1 c1 p2 c2 W,RN W (.slice p1 (ah za) c1) za.natAbs→RN W (.slice p2 (ah zb) c2) zb.natAbs→CN 80 #[.slice p1 (ah za) c1,.slice p2 (ah zb) c2] W n)(h2:∀ s2 d2 W,RN W (.slice s2 (ai n) d2) n→CZ 79 #[.bool (au za != au zb),.slice s2 (ai n) d2] W z)(r1:RN w (.slice p1 (ah za) c1) za.natAbs)(r2:RN w (.slice p2 (ah zb) c2) zb.natAbs) :
 CZ 88 #[.agg #[.bool (au za),.slice p1 (ah za) c1],.agg #[.bool (au zb),.slice p2 (ah zb) c2]] w z:=by
 obtain ⟨C1,C2,R1,R2⟩:=aP h1 h2 r1 r2;clear h1 h2 r1 r2;go_enter Tryz.func88,Tryz.ntmps88
 go_upto_region 1 with fail
 refine ak w [(#[.bool (au za),.slice p1 (ah za) c1],59),(#[.bool (au zb),.slice p2 (ah zb) c2],59),(#[.bool false,.slice none 0 0],59)] rfl ?_;rintro W0 ⟨k1,k2,k3,hb⟩;have rf:=hid (show Below w.heap.size w W0 from hb);obtain ⟨R1,R2⟩:=aO rf.out R1 R2;obtain ⟨K1,K2,K3⟩:=ae k1 k2 k3;clear k1 k2 k3 hb;go_wp2_with fail
 refine aB (fun a0 a' V=>∃ mf mi rM rV,a'=⟨aV [(5,.pointer (some ⟨w.heap.size,0,none⟩)),(6,.bool (au za)),(7,.pointer (some ⟨w.heap.size+1,0,none⟩)),(8,.bool (au zb)),(9,.bool (au za != au zb)),(10,.pointer (some ⟨w.heap.size,1,none⟩)),(11,.slice p1 (ah za) c1),(12,.pointer (some ⟨w.heap.size+1,1,none⟩)),(13,.slice p2 (ah zb) c2),(14,.slice mf (ai n) mi),(15,.agg #[.bool (au z),.slice rM (ah z) rV])] a0.tmps,a0.defers⟩∧Below w.heap.size w V∧SBk V (w.heap.size+1+1) #[.bool (au z),.slice rM (ah z) rV] 59∧RN V (.slice rM (ah z) rV) z.natAbs) ?_ ?_
 · refine ay (by kernel_rfl) 11 1 (fun i=>[5,6,7,8,9,10,11,12,13,14,15].getD i 0) (RelR [Rel.val (.pointer (some ⟨w.heap.size,0,none⟩)),Rel.val (.bool (au za)),Rel.val (.pointer (some ⟨w.heap.size+1,0,none⟩)),Rel.val (.bool (au zb)),Rel.val (.bool (au za != au zb)),Rel.val (.pointer (some ⟨w.heap.size,1,none⟩)),Rel.val (.slice p1 (ah za) c1),Rel.val (.pointer (some ⟨w.heap.size+1,1,none⟩)),Rel.val (.slice p2 (ah zb) c2),Rel.nat n,Rel.int z]) (fun W=>Below W0.heap.size W0 W) (fun _ _=>True) (by kernel_rfl) (by kernel_rfl) (by kernel_rfl) trivial (Below.refl _ _).drew ?_ ?_
   · intro wo a W i hI hD hrd him
     obtain ⟨HI,HD,Hr⟩:=ae hI hD hrd;clear hI hrd hD;have y2:a.tmps[2]? = some (.pointer (some ⟨w.heap.size,0,none⟩)):=HI.out.rest 2 (by decide);have y3:a.tmps[3]? = some (.pointer (some ⟨w.heap.size+1,0,none⟩)):=HI.out.rest 3 (by decide);have ma:=(K1.out.below HI.out.world).cell (i:=0) rfl;have l5:=(K2.out.below HI.out.world).cell (i:=0) rfl;have l6:=(K1.out.below HI.out.world).cell (i:=1) rfl;have lg:=(K2.out.below HI.out.world).cell (i:=1) rfl;have X0:RV _ wo a 0 5 (.pointer (some ⟨w.heap.size,0,none⟩)):=HI.out.rh;have X2:RV _ wo a 2 7 (.pointer (some ⟨w.heap.size+1,0,none⟩)):=HI.out.rh;have X1:RV _ wo a 1 6 (.bool (au za)):=HI.out.rh;have X3:RV _ wo a 3 8 (.bool (au zb)):=HI.out.rh;have X5:RV _ wo a 5 10 (.pointer (some ⟨w.heap.size,1,none⟩)):=HI.out.rh;have X7:RV _ wo a 7 12 (.pointer (some ⟨w.heap.size+1,1,none⟩)):=HI.out.rh;have X6:RV _ wo a 6 11 (.slice p1 (ah za) c1):=HI.out.rh;have X8:RV _ wo a 8 13 (.slice p2 (ah zb) c2):=HI.out.rh;have X4:RV _ wo a 4 9 (.bool (au za != au zb)):=HI.out.rh
     match i,him,Hr with
     | 0,_,Hi|1,_,Hi|2,_,Hi|3,_,Hi|4,_,Hi|5,_,Hi|6,_,Hi|7,_,Hi =>
       try have x0:=X0.g Hi.out (by decide +kernel)
       try have x2:=X2.g Hi.out (by decide +kernel)
       try have x1:=X1.g Hi.out (by decide +kernel)
       try have x3:=X3.g Hi.out (by decide +kernel)
       try have x5:=X5.g Hi.out (by decide +kernel)
       refine ax rfl fun K' hK=>?_;go_simp;exact hK.out _ _ ⟨HI.out.pv Hi.out rfl,trivial⟩
     | 8,_,Hi =>
       have x7:=X7.g Hi.out (by kernel_rfl);refine ax rfl fun K' hK=>?_;go_simp;exact hK.out _ _ ⟨HI.out.pv Hi.out rfl,trivial⟩
     | 9,_,Hi =>
       have x6:=X6.g Hi.out (by kernel_rfl);have x8:=X8.g Hi.out (by kernel_rfl);refine ax rfl fun K' hK=>?_;go_simp;with_reducible refine(C1.out _ _ _ _ _ (R1.out.below HI.out.world) (R2.out.below HI.out.world)).mono ?_
       rintro e W' ⟨mf,mi,rfl,ky,hb⟩;exact hK.out _ _ ⟨HI.out.pc Hi.out hb ⟨mf,mi,rfl,ky⟩,trivial⟩
     | 10,_,Hi =>
       have x4:=X4.g Hi.out (by kernel_rfl);obtain⟨v',x9,mf,mi,e,ky⟩:=HI.out.at (i:=9) Hi.out (by kernel_rfl) (by decide);obtain rfl:=e;have x9:a.tmps[14]? = some (.slice mf (ai n) mi):=x9;have kM:=hid ky;clear ky;refine ax rfl fun K' hK=>?_;go_simp;with_reducible refine(C2.out _ _ _ kM.out).mono ?_
       rintro e W' ⟨rM,rV,rfl,kC,hb⟩;exact hK.out _ _ ⟨HI.out.pc Hi.out hb ⟨rM,rV,rfl,kC⟩,trivial⟩
     | n+11,h,_=>exact absurd h (by omega)
   · intro wo a W hI hD wz
     obtain⟨v',x9,mf,mi,e,ky⟩:=hI.slots 9 (by decide) (wz 9 (by decide));obtain rfl:=e;have kM:=hid ky;clear ky;obtain⟨v',x10,rM,rV,e,kC⟩:=hI.slots 10 (by decide) (wz 10 (by decide));obtain rfl:=e;have kV:=hid kC;clear kC;have x10:a.tmps[15]? = some (.agg #[.bool (au z),.slice rM (ah z) rV]):=x10;obtain ⟨pq,HI,HA⟩:=ae hI.world hI wz;clear hI wz;obtain ⟨lv,K3⟩:=aD (rf.out.trans (pq.out.mono rf.out.size)) (K3.out.below pq.out);have RA:=kM;have RZ:=kV;have y4:a.tmps[4]? = some (.pointer (some ⟨w.heap.size+1+1,0,none⟩)):=HI.out.rest 4 (by decide);obtain ⟨ol,oM⟩:=bH K3.out rfl rfl;obtain ⟨kD,kE⟩:=fP K3.out;refine aL (t:=0) ?_;refine ax rfl fun K' hK=>?_;go_simp;refine hK.out _ _ ?_;clear hK;refine aR ?_;have s0:∀ {v':Value} {n':Nat},RN W v' n'→RN (storeAll W (w.heap.size+1+1) 0 [.bool (au z),.slice rM (ah z) rV]) v' n':=fun h'=>bB _ h' K3.out (by simp[bZ]) (by simp[bD]);exact⟨rfl,mf,mi,rM,rV,(HI.out.finx ⟨HI.out.sx HA.out 0,HI.out.sx HA.out 1,HI.out.sx HA.out 2,HI.out.sx HA.out 3,HI.out.sx HA.out 4,HI.out.sx HA.out 5,HI.out.sx HA.out 6,HI.out.sx HA.out 7,HI.out.sx HA.out 8,x9,x10,trivial⟩ rfl),(av (l:=[.bool (au z),.slice rM (ah z) rV]) (i:=0) (by omega) lv.out),(bO (l:=[.bool (au z),.slice rM (ah z) rV]) (i:=0) K3.out),(s0 RZ.out)⟩
 rintro a' W1 ⟨mf,mi,rM,rV,rfl,z0,z1,z2⟩;obtain ⟨oV,K3,RZ⟩:=ae z0 z1 z2;clear z0 z1 z2;simp only[aV,List.setIfInBounds_toArray,List.set_cons_zero,List.set_cons_succ];go_wp2;obtain ⟨ol,oM⟩:=bH K3.out rfl rfl;exact bodyPost_ret (v:=.agg #[.bool (au z),.slice rM (ah z) rV]) (by simp[results,Tryz.results88,go_sem,ol,oM]) rfl ⟨_,_,rfl,RZ.out,oV.out⟩
