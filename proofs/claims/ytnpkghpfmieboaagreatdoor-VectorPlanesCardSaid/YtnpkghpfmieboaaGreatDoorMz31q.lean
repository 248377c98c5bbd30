/- texts -/
import Derived.Test.YtnpkghpfmieboaaGreatDoorMz25q
namespace Go.Proofs.YtnpkghpfmieboaaGreatDoor
open Go.RowKit Go.Gb
def ai (z:Int):Bool:=decide (z<0)
def ag (n:Nat):Nat:=(aa n).length
def ae (z:Int):Nat:=ag z.natAbs
def RN (w:World) (v:Value) (n:Nat):Prop:=Rd .u32 w v (aa n)
theorem RN.below {w w':World}{v:Value}{n:Nat}(h:RN w v n)(hb:Below w.heap.size w w'):RN w' v n:=Rd.below h hb
theorem RN.sh {w:World}{v:Value}{n:Nat}(h:RN w v n):∃ p c,v=.slice p (ag n) c:=aX h
theorem bC {v:Value}{n g:Nat}{T:TypeId}(l:List Value){w:World}{cs:Array Value}(h:RN w v n)(hg:SBk w g cs T)(hn:bS cs=true)(hl:l.all bi=true):RN (storeAll w g 0 l) v n:=nG l 0 h hg hn hl
theorem Rz.sh {w:World}{u:Value}{z:Int}(h:Rz w u z):∃ p c,u=.agg #[.bool (ai z),.slice p (ae z) c]∧RN w (.slice p (ae z) c) z.natAbs:=rq h
theorem Rz.mk {w:World}{p:Option Addr}{c:Nat}{z:Int}(h:RN w (.slice p (ae z) c) z.natAbs):Rz w (.agg #[.bool (ai z),.slice p (ae z) c]) z:=⟨_,rfl,h⟩
def Rel.nat (n:Nat):Rel:=⟨fun v W=>∃ p c,v=.slice p (ag n) c∧RN W (.slice p (ag n) c) n,fun _ _ _ ⟨p,c,e,h⟩ hb=>⟨p,c,e,h.below hb⟩⟩
def Rel.int (z:Int):Rel:=⟨fun v W=>∃ p c,v=.agg #[.bool (ai z),.slice p (ae z) c]∧RN W (.slice p (ae z) c) z.natAbs,fun _ _ _ ⟨p,c,e,h⟩ hb=>⟨p,c,e,h.below hb⟩⟩
def HZ (w:World) (g:Nat) (z:Int):Prop:=∃ p c,SBk w g #[.bool (ai z),.slice p (ae z) c] 55∧RN w (.slice p (ae z) c) z.natAbs
theorem cCmp (v1 v2:Value)(a b:Nat)(hl:ag a≤1000000)(w:World)(h1:RN w v1 a)(h2:RN w v2 b) :
 CR 77 #[v1,v2] w (.int .i64 (cmpN a b)):=nN v1 v2 a b hl w h1 h2
theorem z5S (v1 v2:Value)(a b:Nat)(hb:b≠0)(hl:ag a≤50000)(w:World)(h1:RN w v1 a)(h2:RN w v2 b) :
 Calls Tryz.prog 100 #[v1,v2] w fun e w'=>∃ p c p' c',e=.returned (.tuple #[.slice p (ag (a / b)) c,.slice p' (ag (a%b)) c'])∧RN w' (.slice p (ag (a / b)) c) (a / b)∧RN w' (.slice p' (ag (a%b)) c') (a%b)∧Below w.heap.size w w':=by
 refine(uY v1 v2 a b hb hl w h1 h2).mono ?_;rintro e w' ⟨q,r,rfl,hq,hr,hB⟩;obtain⟨p,c,rfl⟩:=RN.sh hq;obtain⟨p',c',rfl⟩:=RN.sh hr;exact⟨p,c,p',c',rfl,hq,hr,hB⟩
theorem oh {f:FuncId}{args:Array Value}{w:World}{n:Nat}(h:Calls Tryz.prog f args w fun e w'=>∃ v,e=.returned v∧Own .u32 115 w.heap.size w' v (aa n)∧Below w.heap.size w w') :
 Calls Tryz.prog f args w fun e w'=>∃ p c,e=.returned (.slice p (ag n) c)∧RN w' (.slice p (ag n) c) n∧Below w.heap.size w w':=by
 refine h.mono ?_;rintro e w' ⟨v,rfl,ho,hb⟩;obtain⟨p,c,rfl⟩:=RN.sh ho.rd;exact⟨p,c,rfl,ho.rd,hb⟩
theorem z5R (v1 v2:Value)(a b:Nat)(hla:ag a≤100000)(hlb:ag b≤100000)(w:World)(h1:RN w v1 a)(h2:RN w v2 b) :
 Calls Tryz.prog 112 #[v1,v2] w fun e w'=>∃ p c,e=.returned (.slice p (ag (a+b)) c)∧RN w' (.slice p (ag (a+b)) c) (a+b)∧Below w.heap.size w w':=oh (z1l v1 v2 a b hla hlb w h1 h2)
theorem z3v (v1 v2:Value)(a b:Nat)(hab:b≤a)(hla:ag a≤100000)(w:World)(h1:RN w v1 a)(h2:RN w v2 b) :
 Calls Tryz.prog 113 #[v1,v2] w fun e w'=>∃ p c,e=.returned (.slice p (ag (a-b)) c)∧RN w' (.slice p (ag (a-b)) c) (a-b)∧Below w.heap.size w w':=oh (zK v1 v2 a b hab hla w h1 h2)
theorem uM (v1 v2:Value)(a b:Nat)(hla:ag a≤100000)(hlb:ag b≤100000)(w:World)(h1:RN w v1 a)(h2:RN w v2 b) :
 Calls Tryz.prog 84 #[v1,v2] w fun e w'=>∃ p c,e=.returned (.slice p (ag (a*b)) c)∧RN w' (.slice p (ag (a*b)) c) (a*b)∧Below w.heap.size w w':=oh (mP v1 v2 a b hla hlb w h1 h2)
theorem z5c (n:Nat)(hn:n<4294967296)(w:World) :
 Calls Tryz.prog 76 #[.int .u32 (n:Int)] w fun e w'=>∃ p c,e=.returned (.slice p (ag n) c)∧RN w' (.slice p (ag n) c) n∧Below w.heap.size w w':=oh (wY n hn w)
theorem sN (k:Int)(n:Nat)(hk:(n:Int)=k)(hn:n<4294967296)(w:World) :
 Calls Tryz.prog 76 #[.int .u32 k] w fun e w'=>∃ p c,e=.returned (.slice p (ag n) c)∧RN w' (.slice p (ag n) c) n∧Below w.heap.size w w':=by subst hk;exact z5c n hn w
theorem oW (v1 v2:Value)(a b g:Nat)(hg:Nat.gcd a b=g)(hla:ag a≤50000)(hlb:ag b≤50000)(w:World)(h1:RN w v1 a)(h2:RN w v2 b) :
 Calls Tryz.prog 78 #[v1,v2] w fun e w'=>∃ p c,e=.returned (.slice p (ag g) c)∧RN w' (.slice p (ag g) c) g∧Below w.heap.size w w':=by
 subst hg;refine(wZ v1 v2 a b hla hlb w h1 h2).mono ?_;rintro e w' ⟨v,rfl,hr,hb⟩;obtain⟨p,c,rfl⟩:=RN.sh hr;exact⟨p,c,rfl,hr,hb⟩
theorem yT {f:FuncId}{args:Array Value}{w:World}{z:Int}(h:Calls Tryz.prog f args w fun e w'=>∃ u,e=.returned u∧Rz w' u z∧Below w.heap.size w w') :
 Calls Tryz.prog f args w fun e w'=>∃ p c,e=.returned (.agg #[.bool (ai z),.slice p (ae z) c])∧RN w' (.slice p (ae z) c) z.natAbs∧Below w.heap.size w w':=by
 refine h.mono ?_;rintro e w' ⟨u,rfl,hu,hb⟩;obtain⟨p,c,rfl,r⟩:=hu.sh;exact⟨p,c,rfl,r,hb⟩
theorem pU (b:Bool)(v:Value)(n:Nat)(z:Int)(hz:z=if b then -(n:Int) else (n:Int))(hl:ag n≤1000000)(w:World)(h:RN w v n) :
 Calls Tryz.prog 86 #[.bool b,v] w fun e w'=>∃ p c,e=.returned (.agg #[.bool (ai z),.slice p (ae z) c])∧RN w' (.slice p (ae z) c) z.natAbs∧Below w.heap.size w w':=yT (z5r b v n z hz hl w h)
theorem rH:ag 1=1:=by decide +kernel
theorem jw {a b:Nat}(h:a≤b):ag a≤ag b:=aN h
instance {W W':World}{v:Value}{n:Nat}:Gr (RN W v n) W W' (RN W' v n):=⟨fun h k=>k.below h⟩
abbrev CZ (f : FuncId) (args : Array Value) (w : World) (z : Int) : Prop := Calls Tryz.prog f args w fun e w' => ∃ p c, e = .returned (.agg #[.bool (ai z), .slice p (ae z) c]) ∧ RN w' (.slice p (ae z) c) z.natAbs ∧ Below w.heap.size w w'
abbrev CN (f : FuncId) (args : Array Value) (w : World) (n : Nat) : Prop := Calls Tryz.prog f args w fun e w' => ∃ p c, e = .returned (.slice p (ag n) c) ∧ RN w' (.slice p (ag n) c) n ∧ Below w.heap.size w w'
abbrev CF (f : FuncId) (args : Array Value) (w : World) (z : Int) (n : Nat) : Prop := Calls Tryz.prog f args w fun e w' => ∃ p c s d, e = .returned (.agg #[.bool (ai z), .slice p (ae z) c, .slice s (ag n) d]) ∧ RN w' (.slice p (ae z) c) z.natAbs ∧ RN w' (.slice s (ag n) d) n ∧ Below w.heap.size w w'
end Go.Proofs.YtnpkghpfmieboaaGreatDoor
set_option maxRecDepth 100000
set_option maxHeartbeats 20000000
open Go.Lib (hid)
namespace Go.Proofs.YtnpkghpfmieboaaGreatDoor
open Go.RowKit Go.Gb
theorem zF (za zb z:Int)(n:Nat)(hs:(ai za==ai zb)=true)(p1:Option Addr)(c1:Nat)(p2:Option Addr)(c2:Nat)(w:World)(h1:∀ p1 c1 p2 c2 W,RN W (.slice p1 (ae za) c1) za.natAbs→RN W (.slice p2 (ae zb) c2) zb.natAbs→CN 112 #[.slice p1 (ae za) c1,.slice p2 (ae zb) c2] W n)(h2:∀ s2 d2 W,RN W (.slice s2 (ag n) d2) n→CZ 86 #[.bool (ai za),.slice s2 (ag n) d2] W z)(r1:RN w (.slice p1 (ae za) c1) za.natAbs)(r2:RN w (.slice p2 (ae zb) c2) zb.natAbs) :
 CZ 85 #[.agg #[.bool (ai za),.slice p1 (ae za) c1],.agg #[.bool (ai zb),.slice p2 (ae zb) c2]] w z:=by
 obtain ⟨C1,C2,R1,R2⟩:=aL h1 h2 r1 r2;have s0:(ai za==ai zb)=true:=hs;clear hs h1 h2 r1 r2;go_enter Tryz.func85,Tryz.ntmps85
 go_upto_region 1 with fail
 refine ak w [(#[.bool (ai za),.slice p1 (ae za) c1],55),(#[.bool (ai zb),.slice p2 (ae zb) c2],55),(#[.bool false,.slice none 0 0],55)] rfl ?_;rintro W0 ⟨k1,k2,k3,hb⟩;have wz:=hid (show Below w.heap.size w W0 from hb);obtain ⟨R1,R2⟩:=aQ wz.o R1 R2;obtain ⟨K1,K2,K3⟩:=ax k1 k2 k3;clear k1 k2 k3 hb;have p8:=K1.o.cell (i:=0) rfl;have oM:=K2.o.cell (i:=0) rfl;go_wp2_with fail
 clear p8 oM;refine ay (fun a0 a' V=>∃ wo wu u6 w9,a'=⟨aR [(10,.pointer (some ⟨w.heap.size,0,none⟩)),(11,.bool (ai za)),(12,.pointer (some ⟨w.heap.size,1,none⟩)),(13,.slice p1 (ae za) c1),(14,.pointer (some ⟨w.heap.size+1,1,none⟩)),(15,.slice p2 (ae zb) c2),(16,.slice wo (ag n) wu),(17,.agg #[.bool (ai z),.slice u6 (ae z) w9])] a0.tmps,a0.defers⟩∧Below w.heap.size w V∧SBk V (w.heap.size+1+1) #[.bool (ai z),.slice u6 (ae z) w9] 55∧RN V (.slice u6 (ae z) w9) z.natAbs) ?_ ?_
 · refine aC 8 1 [10,11,12,13,14,15,16,17] [Rel.val (.pointer (some ⟨w.heap.size,0,none⟩)),Rel.val (.bool (ai za)),Rel.val (.pointer (some ⟨w.heap.size,1,none⟩)),Rel.val (.slice p1 (ae za) c1),Rel.val (.pointer (some ⟨w.heap.size+1,1,none⟩)),Rel.val (.slice p2 (ae zb) c2),Rel.nat n,Rel.int z] ?_ ?_
   · intro oV a W i HI hD Hr him
     obtain⟨y2,y3⟩:=HI.o.s2 2 3;obtain ⟨p8,ma⟩:=bH (K1.o.below HI.o.world) rfl rfl;have mf:=(K2.o.below HI.o.world).cell (i:=1) rfl;obtain⟨X0,X2,X4,X3,X5,X1⟩:=HI.o.g6 0 10 2 12 4 14 3 13 5 15 1 11
     match i,him,Hr with
     | 0,_,Hi|1,_,Hi|2,_,Hi|3,_,Hi|4,_,Hi|5,_,Hi =>
       try have x0:=X0.t Hi.o
       try have x2:=X2.t Hi.o
       try have x4:=X4.t Hi.o
       refine av rfl fun K' hK=>?_;go_simp;exact hK.o _ _ (HI.o.pw Hi.o)
     | 6,_,Hi =>
       have x3:=X3.q Hi.o;have x5:=X5.q Hi.o;refine av rfl fun K' hK=>?_;go_simp;with_reducible refine(C1.o _ _ _ _ _ (R1.o.below HI.o.world) (R2.o.below HI.o.world)).mono ?_
       rintro e W' ⟨wo,wu,rfl,ww,hb⟩;exact hK.o _ _ ⟨HI.o.pc Hi.o hb ⟨wo,wu,rfl,ww⟩,trivial⟩
     | 7,_,Hi =>
       have x1:=X1.q Hi.o;obtain⟨v',x6,wo,wu,e,ww⟩:=HI.o.at (i:=6) Hi.o (by kernel_rfl) (by decide);obtain rfl:=e;have x6:a.tmps[16]? = some (.slice wo (ag n) wu):=x6;have sw:=hid ww;clear ww;refine av rfl fun K' hK=>?_;go_simp;with_reducible refine(C2.o _ _ _ sw.o).mono ?_
       rintro e W' ⟨u6,w9,rfl,wy,hb⟩;exact hK.o _ _ ⟨HI.o.pc Hi.o hb ⟨u6,w9,rfl,wy⟩,trivial⟩
     | n+8,h,_=>exact absurd h (by omega)
   · intro oV a W HI hD HA
     obtain⟨v',x6,wo,wu,e,ww⟩:=HI.o.slots 6 (by decide) (HA.o 6 (by decide));obtain rfl:=e;have sw:=hid ww;clear ww;obtain⟨v',x7,u6,w9,e,wy⟩:=HI.o.slots 7 (by decide) (HA.o 7 (by decide));obtain rfl:=e;have l6:=hid wy;clear wy;have x7:a.tmps[17]? = some (.agg #[.bool (ai z),.slice u6 (ae z) w9]):=x7;have r9:=hid HI.o.world;obtain ⟨mi,K3⟩:=aD (wz.o.trans (r9.o.mono wz.o.size)) (K3.o.below r9.o);have RA:=sw;have RZ:=l6;have y4:=HI.o.rst 4 rfl;obtain ⟨rf,rM⟩:=bH K3.o rfl rfl;obtain ⟨lg,lv⟩:=gm K3.o;refine aH (t:=0) ?_;refine av rfl fun K' hK=>?_;go_simp;refine hK.o _ _ ?_;clear hK;refine aO ?_;have s0:∀ {v':Value} {n':Nat},RN W v' n'→RN (storeAll W (w.heap.size+1+1) 0 [.bool (ai z),.slice u6 (ae z) w9]) v' n':=fun h'=>bC _ h' K3.o (by simp[bS]) (by simp[bi]);exact⟨rfl,wo,wu,u6,w9,(HI.o.finx ⟨HI.o.sx HA.o 0,HI.o.sx HA.o 1,HI.o.sx HA.o 2,HI.o.sx HA.o 3,HI.o.sx HA.o 4,HI.o.sx HA.o 5,x6,x7,trivial⟩ rfl),(au (l:=[.bool (ai z),.slice u6 (ae z) w9]) (i:=0) (by omega) mi.o),(bO (l:=[.bool (ai z),.slice u6 (ae z) w9]) (i:=0) K3.o),(s0 RZ.o)⟩
 rintro a' W1 ⟨wo,wu,u6,w9,rfl,z0,z1,z2⟩;obtain ⟨rV,K3,RZ⟩:=ax z0 z1 z2;clear z0 z1 z2;simp only[aR,List.setIfInBounds_toArray,List.set_cons_zero,List.set_cons_succ];go_wp2;obtain ⟨rf,rM⟩:=bH K3.o rfl rfl;exact bodyPost_ret (v:=.agg #[.bool (ai z),.slice u6 (ae z) w9]) (by simp[results,Tryz.results85,go_sem,rf,rM]) rfl ⟨_,_,rfl,RZ.o,rV.o⟩
theorem z2X (za zb z:Int)(n:Nat)(k:Int)(hk:0≤k)(hs:(ai za==ai zb)=false)(p1:Option Addr)(c1:Nat)(p2:Option Addr)(c2:Nat)(w:World)(h3:∀ p1 c1 p2 c2 W,RN W (.slice p1 (ae za) c1) za.natAbs→RN W (.slice p2 (ae zb) c2) zb.natAbs→CR 77 #[.slice p1 (ae za) c1,.slice p2 (ae zb) c2] W (.int .i64 k))(h4:∀ p1 c1 p2 c2 W,RN W (.slice p1 (ae za) c1) za.natAbs→RN W (.slice p2 (ae zb) c2) zb.natAbs→CN 113 #[.slice p1 (ae za) c1,.slice p2 (ae zb) c2] W n)(h2:∀ s2 d2 W,RN W (.slice s2 (ag n) d2) n→CZ 86 #[.bool (ai za),.slice s2 (ag n) d2] W z)(r1:RN w (.slice p1 (ae za) c1) za.natAbs)(r2:RN w (.slice p2 (ae zb) c2) zb.natAbs) :
 CZ 85 #[.agg #[.bool (ai za),.slice p1 (ae za) c1],.agg #[.bool (ai zb),.slice p2 (ae zb) c2]] w z:=by
 obtain ⟨C3,C4,C2,R1,R2⟩:=bA h3 h4 h2 r1 r2;have s0:(ai za==ai zb)=false:=hs;clear hs;have k0:decide (0≤k)=true:=decide_eq_true hk;have k1:0≤k:=hk;clear hk h3 h4 h2 r1 r2;go_enter Tryz.func85,Tryz.ntmps85
 go_upto_region 1 with fail
 refine ak w [(#[.bool (ai za),.slice p1 (ae za) c1],55),(#[.bool (ai zb),.slice p2 (ae zb) c2],55),(#[.bool false,.slice none 0 0],55)] rfl ?_;rintro W0 ⟨k1,k2,k3,hb⟩;have wz:=hid (show Below w.heap.size w W0 from hb);obtain ⟨R1,R2⟩:=aQ wz.o R1 R2;obtain ⟨K1,K2,K3⟩:=ax k1 k2 k3;clear k1 k2 k3 hb;have p8:=K1.o.cell (i:=0) rfl;have oM:=K2.o.cell (i:=0) rfl;have ma:=K1.o.cell (i:=1) rfl;have mf:=K2.o.cell (i:=1) rfl;go_wp2_with fail
 with_reducible refine(C3.o _ _ _ _ _ R1.o R2.o).mono ?_
 rintro e W1 ⟨rfl,hb⟩;clear p8 oM ma mf;obtain ⟨K1,K2,K3,R1,R2⟩:=bG hb K1 K2 K3 R1 R2;have rV:=hbt wz hb;clear hb;go_wp2_with fail
 refine ay (fun a0 a' V=>∃ wo wu u6 w9,a'=⟨aR [(24,.pointer (some ⟨w.heap.size,0,none⟩)),(25,.bool (ai za)),(26,.pointer (some ⟨w.heap.size,1,none⟩)),(27,.slice p1 (ae za) c1),(28,.pointer (some ⟨w.heap.size+1,1,none⟩)),(29,.slice p2 (ae zb) c2),(30,.slice wo (ag n) wu),(31,.agg #[.bool (ai z),.slice u6 (ae z) w9])] a0.tmps,a0.defers⟩∧Below w.heap.size w V∧SBk V (w.heap.size+1+1) #[.bool (ai z),.slice u6 (ae z) w9] 55∧RN V (.slice u6 (ae z) w9) z.natAbs) ?_ ?_
 · refine aC 8 1 [24,25,26,27,28,29,30,31] [Rel.val (.pointer (some ⟨w.heap.size,0,none⟩)),Rel.val (.bool (ai za)),Rel.val (.pointer (some ⟨w.heap.size,1,none⟩)),Rel.val (.slice p1 (ae za) c1),Rel.val (.pointer (some ⟨w.heap.size+1,1,none⟩)),Rel.val (.slice p2 (ae zb) c2),Rel.nat n,Rel.int z] ?_ ?_
   · intro oV a W i HI hD Hr him
     obtain⟨y2,y3⟩:=HI.o.s2 2 3;obtain ⟨p8,ma⟩:=bH (K1.o.below HI.o.world) rfl rfl;have mf:=(K2.o.below HI.o.world).cell (i:=1) rfl;obtain⟨X0,X2,X4,X3,X5,X1⟩:=HI.o.g6 0 24 2 26 4 28 3 27 5 29 1 25
     match i,him,Hr with
     | 0,_,Hi|1,_,Hi|2,_,Hi|3,_,Hi|4,_,Hi|5,_,Hi =>
       try have x0:=X0.t Hi.o
       try have x2:=X2.t Hi.o
       try have x4:=X4.t Hi.o
       refine av rfl fun K' hK=>?_;go_simp;exact hK.o _ _ (HI.o.pw Hi.o)
     | 6,_,Hi =>
       have x3:=X3.q Hi.o;have x5:=X5.q Hi.o;refine av rfl fun K' hK=>?_;go_simp;with_reducible refine(C4.o _ _ _ _ _ (R1.o.below HI.o.world) (R2.o.below HI.o.world)).mono ?_
       rintro e W' ⟨wo,wu,rfl,ww,hb⟩;exact hK.o _ _ ⟨HI.o.pc Hi.o hb ⟨wo,wu,rfl,ww⟩,trivial⟩
     | 7,_,Hi =>
       have x1:=X1.q Hi.o;obtain⟨v',x6,wo,wu,e,ww⟩:=HI.o.at (i:=6) Hi.o (by kernel_rfl) (by decide);obtain rfl:=e;have x6:a.tmps[30]? = some (.slice wo (ag n) wu):=x6;have sw:=hid ww;clear ww;refine av rfl fun K' hK=>?_;go_simp;with_reducible refine(C2.o _ _ _ sw.o).mono ?_
       rintro e W' ⟨u6,w9,rfl,wy,hb⟩;exact hK.o _ _ ⟨HI.o.pc Hi.o hb ⟨u6,w9,rfl,wy⟩,trivial⟩
     | n+8,h,_=>exact absurd h (by omega)
   · intro oV a W HI hD HA
     obtain⟨v',x6,wo,wu,e,ww⟩:=HI.o.slots 6 (by decide) (HA.o 6 (by decide));obtain rfl:=e;have sw:=hid ww;clear ww;obtain⟨v',x7,u6,w9,e,wy⟩:=HI.o.slots 7 (by decide) (HA.o 7 (by decide));obtain rfl:=e;have l6:=hid wy;clear wy;have x7:a.tmps[31]? = some (.agg #[.bool (ai z),.slice u6 (ae z) w9]):=x7;have r9:=hid HI.o.world;obtain ⟨mi,K3⟩:=aD (rV.o.trans (r9.o.mono rV.o.size)) (K3.o.below r9.o);have RA:=sw;have RZ:=l6;have y4:=HI.o.rst 4 rfl;obtain ⟨rf,rM⟩:=bH K3.o rfl rfl;obtain ⟨lg,lv⟩:=gm K3.o;refine aH (t:=0) ?_;refine av rfl fun K' hK=>?_;go_simp;refine hK.o _ _ ?_;clear hK;refine aO ?_;have s0:∀ {v':Value} {n':Nat},RN W v' n'→RN (storeAll W (w.heap.size+1+1) 0 [.bool (ai z),.slice u6 (ae z) w9]) v' n':=fun h'=>bC _ h' K3.o (by simp[bS]) (by simp[bi]);exact⟨rfl,wo,wu,u6,w9,(HI.o.finx ⟨HI.o.sx HA.o 0,HI.o.sx HA.o 1,HI.o.sx HA.o 2,HI.o.sx HA.o 3,HI.o.sx HA.o 4,HI.o.sx HA.o 5,x6,x7,trivial⟩ rfl),(au (l:=[.bool (ai z),.slice u6 (ae z) w9]) (i:=0) (by omega) mi.o),(bO (l:=[.bool (ai z),.slice u6 (ae z) w9]) (i:=0) K3.o),(s0 RZ.o)⟩
 rintro a' W2 ⟨wo,wu,u6,w9,rfl,z0,z1,z2⟩;obtain ⟨kr,K3,RZ⟩:=ax z0 z1 z2;clear z0 z1 z2;simp only[aR,List.setIfInBounds_toArray,List.set_cons_zero,List.set_cons_succ];go_wp2;obtain ⟨rf,rM⟩:=bH K3.o rfl rfl;exact bodyPost_ret (v:=.agg #[.bool (ai z),.slice u6 (ae z) w9]) (by simp[results,Tryz.results85,go_sem,rf,rM]) rfl ⟨_,_,rfl,RZ.o,kr.o⟩
theorem z2W (za zb z:Int)(n:Nat)(k:Int)(hk:k<0)(hs:(ai za==ai zb)=false)(p1:Option Addr)(c1:Nat)(p2:Option Addr)(c2:Nat)(w:World)(h3:∀ p1 c1 p2 c2 W,RN W (.slice p1 (ae za) c1) za.natAbs→RN W (.slice p2 (ae zb) c2) zb.natAbs→CR 77 #[.slice p1 (ae za) c1,.slice p2 (ae zb) c2] W (.int .i64 k))(h4:∀ p1 c1 p2 c2 W,RN W (.slice p1 (ae zb) c1) zb.natAbs→RN W (.slice p2 (ae za) c2) za.natAbs→CN 113 #[.slice p1 (ae zb) c1,.slice p2 (ae za) c2] W n)(h2:∀ s2 d2 W,RN W (.slice s2 (ag n) d2) n→CZ 86 #[.bool (ai zb),.slice s2 (ag n) d2] W z)(r1:RN w (.slice p1 (ae za) c1) za.natAbs)(r2:RN w (.slice p2 (ae zb) c2) zb.natAbs) :
 CZ 85 #[.agg #[.bool (ai za),.slice p1 (ae za) c1],.agg #[.bool (ai zb),.slice p2 (ae zb) c2]] w z:=by
 obtain ⟨C3,C4,C2,R1,R2⟩:=bA h3 h4 h2 r1 r2;have s0:(ai za==ai zb)=false:=hs;clear hs;have k0:decide (0≤k)=false:=decide_eq_false (by omega);have k1:¬ 0≤k:=by omega
 clear hk h3 h4 h2 r1 r2;go_enter Tryz.func85,Tryz.ntmps85
 go_upto_region 1 with fail
 refine ak w [(#[.bool (ai za),.slice p1 (ae za) c1],55),(#[.bool (ai zb),.slice p2 (ae zb) c2],55),(#[.bool false,.slice none 0 0],55)] rfl ?_;rintro W0 ⟨k1,k2,k3,hb⟩;have wz:=hid (show Below w.heap.size w W0 from hb);obtain ⟨R1,R2⟩:=aQ wz.o R1 R2;obtain ⟨K1,K2,K3⟩:=ax k1 k2 k3;clear k1 k2 k3 hb;have p8:=K1.o.cell (i:=0) rfl;have oM:=K2.o.cell (i:=0) rfl;have ma:=K1.o.cell (i:=1) rfl;have mf:=K2.o.cell (i:=1) rfl;go_wp2_with fail
 with_reducible refine(C3.o _ _ _ _ _ R1.o R2.o).mono ?_
 rintro e W1 ⟨rfl,hb⟩;clear p8 oM ma mf;obtain ⟨K1,K2,K3,R1,R2⟩:=bG hb K1 K2 K3 R1 R2;have rV:=hbt wz hb;clear hb;go_wp2_with fail
 refine ay (fun a0 a' V=>∃ wo wu u6 w9,a'=⟨aR [(32,.pointer (some ⟨w.heap.size+1,0,none⟩)),(33,.bool (ai zb)),(34,.pointer (some ⟨w.heap.size+1,1,none⟩)),(35,.slice p2 (ae zb) c2),(36,.pointer (some ⟨w.heap.size,1,none⟩)),(37,.slice p1 (ae za) c1),(38,.slice wo (ag n) wu),(39,.agg #[.bool (ai z),.slice u6 (ae z) w9])] a0.tmps,a0.defers⟩∧Below w.heap.size w V∧SBk V (w.heap.size+1+1) #[.bool (ai z),.slice u6 (ae z) w9] 55∧RN V (.slice u6 (ae z) w9) z.natAbs) ?_ ?_
 · refine aC 8 1 [32,33,34,35,36,37,38,39] [Rel.val (.pointer (some ⟨w.heap.size+1,0,none⟩)),Rel.val (.bool (ai zb)),Rel.val (.pointer (some ⟨w.heap.size+1,1,none⟩)),Rel.val (.slice p2 (ae zb) c2),Rel.val (.pointer (some ⟨w.heap.size,1,none⟩)),Rel.val (.slice p1 (ae za) c1),Rel.nat n,Rel.int z] ?_ ?_
   · intro oV a W i HI hD Hr him
     obtain⟨y3,y2⟩:=HI.o.s2 3 2;obtain ⟨oM,mf⟩:=bH (K2.o.below HI.o.world) rfl rfl;have ma:=(K1.o.below HI.o.world).cell (i:=1) rfl;obtain⟨X0,X2,X4,X3,X5,X1⟩:=HI.o.g6 0 32 2 34 4 36 3 35 5 37 1 33
     match i,him,Hr with
     | 0,_,Hi|1,_,Hi|2,_,Hi|3,_,Hi|4,_,Hi|5,_,Hi =>
       try have x0:=X0.t Hi.o
       try have x2:=X2.t Hi.o
       try have x4:=X4.t Hi.o
       refine av rfl fun K' hK=>?_;go_simp;exact hK.o _ _ (HI.o.pw Hi.o)
     | 6,_,Hi =>
       have x3:=X3.q Hi.o;have x5:=X5.q Hi.o;refine av rfl fun K' hK=>?_;go_simp;with_reducible refine(C4.o _ _ _ _ _ (R2.o.below HI.o.world) (R1.o.below HI.o.world)).mono ?_
       rintro e W' ⟨wo,wu,rfl,ww,hb⟩;exact hK.o _ _ ⟨HI.o.pc Hi.o hb ⟨wo,wu,rfl,ww⟩,trivial⟩
     | 7,_,Hi =>
       have x1:=X1.q Hi.o;obtain⟨v',x6,wo,wu,e,ww⟩:=HI.o.at (i:=6) Hi.o (by kernel_rfl) (by decide);obtain rfl:=e;have x6:a.tmps[38]? = some (.slice wo (ag n) wu):=x6;have sw:=hid ww;clear ww;refine av rfl fun K' hK=>?_;go_simp;with_reducible refine(C2.o _ _ _ sw.o).mono ?_
       rintro e W' ⟨u6,w9,rfl,wy,hb⟩;exact hK.o _ _ ⟨HI.o.pc Hi.o hb ⟨u6,w9,rfl,wy⟩,trivial⟩
     | n+8,h,_=>exact absurd h (by omega)
   · intro oV a W HI hD HA
     obtain⟨v',x6,wo,wu,e,ww⟩:=HI.o.slots 6 (by decide) (HA.o 6 (by decide));obtain rfl:=e;have sw:=hid ww;clear ww;obtain⟨v',x7,u6,w9,e,wy⟩:=HI.o.slots 7 (by decide) (HA.o 7 (by decide));obtain rfl:=e;have l6:=hid wy;clear wy;have x7:a.tmps[39]? = some (.agg #[.bool (ai z),.slice u6 (ae z) w9]):=x7;have r9:=hid HI.o.world;obtain ⟨mi,K3⟩:=aD (rV.o.trans (r9.o.mono rV.o.size)) (K3.o.below r9.o);have RA:=sw;have RZ:=l6;have y4:=HI.o.rst 4 rfl;obtain ⟨rf,rM⟩:=bH K3.o rfl rfl;obtain ⟨lg,lv⟩:=gm K3.o;refine aH (t:=0) ?_;refine av rfl fun K' hK=>?_;go_simp;refine hK.o _ _ ?_;clear hK;refine aO ?_;have s0:∀ {v':Value} {n':Nat},RN W v' n'→RN (storeAll W (w.heap.size+1+1) 0 [.bool (ai z),.slice u6 (ae z) w9]) v' n':=fun h'=>bC _ h' K3.o (by simp[bS]) (by simp[bi]);exact⟨rfl,wo,wu,u6,w9,(HI.o.finx ⟨HI.o.sx HA.o 0,HI.o.sx HA.o 1,HI.o.sx HA.o 2,HI.o.sx HA.o 3,HI.o.sx HA.o 4,HI.o.sx HA.o 5,x6,x7,trivial⟩ rfl),(au (l:=[.bool (ai z),.slice u6 (ae z) w9]) (i:=0) (by omega) mi.o),(bO (l:=[.bool (ai z),.slice u6 (ae z) w9]) (i:=0) K3.o),(s0 RZ.o)⟩
 rintro a' W2 ⟨wo,wu,u6,w9,rfl,z0,z1,z2⟩;obtain ⟨kr,K3,RZ⟩:=ax z0 z1 z2;clear z0 z1 z2;simp only[aR,List.setIfInBounds_toArray,List.set_cons_zero,List.set_cons_succ];go_wp2;obtain ⟨rf,rM⟩:=bH K3.o rfl rfl;exact bodyPost_ret (v:=.agg #[.bool (ai z),.slice u6 (ae z) w9]) (by simp[results,Tryz.results85,go_sem,rf,rM]) rfl ⟨_,_,rfl,RZ.o,kr.o⟩
theorem zD (za zb z:Int)(n:Nat)(p1:Option Addr)(c1:Nat)(p2:Option Addr)(c2:Nat)(w:World)(h1:∀ p1 c1 p2 c2 W,RN W (.slice p1 (ae za) c1) za.natAbs→RN W (.slice p2 (ae zb) c2) zb.natAbs→CN 84 #[.slice p1 (ae za) c1,.slice p2 (ae zb) c2] W n)(h2:∀ s2 d2 W,RN W (.slice s2 (ag n) d2) n→CZ 86 #[.bool (ai za != ai zb),.slice s2 (ag n) d2] W z)(r1:RN w (.slice p1 (ae za) c1) za.natAbs)(r2:RN w (.slice p2 (ae zb) c2) zb.natAbs) :
 CZ 83 #[.agg #[.bool (ai za),.slice p1 (ae za) c1],.agg #[.bool (ai zb),.slice p2 (ae zb) c2]] w z:=by
 obtain ⟨C1,C2,R1,R2⟩:=aL h1 h2 r1 r2;clear h1 h2 r1 r2;go_enter Tryz.func83,Tryz.ntmps83
 go_upto_region 1 with fail
 refine ak w [(#[.bool (ai za),.slice p1 (ae za) c1],55),(#[.bool (ai zb),.slice p2 (ae zb) c2],55),(#[.bool false,.slice none 0 0],55)] rfl ?_;rintro W0 ⟨k1,k2,k3,hb⟩;have wz:=hid (show Below w.heap.size w W0 from hb);obtain ⟨R1,R2⟩:=aQ wz.o R1 R2;obtain ⟨K1,K2,K3⟩:=ax k1 k2 k3;clear k1 k2 k3 hb;go_wp2_with fail
 refine ay (fun a0 a' V=>∃ pq ol si sj,a'=⟨aR [(5,.pointer (some ⟨w.heap.size,0,none⟩)),(6,.bool (ai za)),(7,.pointer (some ⟨w.heap.size+1,0,none⟩)),(8,.bool (ai zb)),(9,.bool (ai za != ai zb)),(10,.pointer (some ⟨w.heap.size,1,none⟩)),(11,.slice p1 (ae za) c1),(12,.pointer (some ⟨w.heap.size+1,1,none⟩)),(13,.slice p2 (ae zb) c2),(14,.slice pq (ag n) ol),(15,.agg #[.bool (ai z),.slice si (ae z) sj])] a0.tmps,a0.defers⟩∧Below w.heap.size w V∧SBk V (w.heap.size+1+1) #[.bool (ai z),.slice si (ae z) sj] 55∧RN V (.slice si (ae z) sj) z.natAbs) ?_ ?_
 · refine aC 11 1 [5,6,7,8,9,10,11,12,13,14,15] [Rel.val (.pointer (some ⟨w.heap.size,0,none⟩)),Rel.val (.bool (ai za)),Rel.val (.pointer (some ⟨w.heap.size+1,0,none⟩)),Rel.val (.bool (ai zb)),Rel.val (.bool (ai za != ai zb)),Rel.val (.pointer (some ⟨w.heap.size,1,none⟩)),Rel.val (.slice p1 (ae za) c1),Rel.val (.pointer (some ⟨w.heap.size+1,1,none⟩)),Rel.val (.slice p2 (ae zb) c2),Rel.nat n,Rel.int z] ?_ ?_
   · intro oV a W i HI hD Hr him
     obtain⟨y2,y3⟩:=HI.o.s2 2 3;have p8:=(K1.o.below HI.o.world).cell (i:=0) rfl;have oM:=(K2.o.below HI.o.world).cell (i:=0) rfl;have ma:=(K1.o.below HI.o.world).cell (i:=1) rfl;have mf:=(K2.o.below HI.o.world).cell (i:=1) rfl;obtain⟨X0,X2,X1,X3,X5,X7⟩:=HI.o.g6 0 5 2 7 1 6 3 8 5 10 7 12;obtain⟨X6,X8,X4⟩:=HI.o.g3 6 11 8 13 4 9
     match i,him,Hr with
     | 0,_,Hi|1,_,Hi|2,_,Hi|3,_,Hi|4,_,Hi|5,_,Hi|6,_,Hi|7,_,Hi =>
       try have x0:=X0.t Hi.o
       try have x2:=X2.t Hi.o
       try have x1:=X1.t Hi.o
       try have x3:=X3.t Hi.o
       try have x5:=X5.t Hi.o
       refine av rfl fun K' hK=>?_;go_simp;exact hK.o _ _ (HI.o.pw Hi.o)
     | 8,_,Hi =>
       have x7:=X7.q Hi.o;refine av rfl fun K' hK=>?_;go_simp;exact hK.o _ _ (HI.o.pw Hi.o)
     | 9,_,Hi =>
       have x6:=X6.q Hi.o;have x8:=X8.q Hi.o;refine av rfl fun K' hK=>?_;go_simp;with_reducible refine(C1.o _ _ _ _ _ (R1.o.below HI.o.world) (R2.o.below HI.o.world)).mono ?_
       rintro e W' ⟨pq,ol,rfl,l5,hb⟩;exact hK.o _ _ ⟨HI.o.pc Hi.o hb ⟨pq,ol,rfl,l5⟩,trivial⟩
     | 10,_,Hi =>
       have x4:=X4.q Hi.o;obtain⟨v',x9,pq,ol,e,l5⟩:=HI.o.at (i:=9) Hi.o (by kernel_rfl) (by decide);obtain rfl:=e;have x9:a.tmps[14]? = some (.slice pq (ag n) ol):=x9;have ky:=hid l5;clear l5;refine av rfl fun K' hK=>?_;go_simp;with_reducible refine(C2.o _ _ _ ky.o).mono ?_
       rintro e W' ⟨si,sj,rfl,lc,hb⟩;exact hK.o _ _ ⟨HI.o.pc Hi.o hb ⟨si,sj,rfl,lc⟩,trivial⟩
     | n+11,h,_=>exact absurd h (by omega)
   · intro oV a W HI hD HA
     obtain⟨v',x9,pq,ol,e,l5⟩:=HI.o.slots 9 (by decide) (HA.o 9 (by decide));obtain rfl:=e;have ky:=hid l5;clear l5;obtain⟨v',x10,si,sj,e,lc⟩:=HI.o.slots 10 (by decide) (HA.o 10 (by decide));obtain rfl:=e;have kz:=hid lc;clear lc;have x10:a.tmps[15]? = some (.agg #[.bool (ai z),.slice si (ae z) sj]):=x10;have r9:=hid HI.o.world;obtain ⟨mi,K3⟩:=aD (wz.o.trans (r9.o.mono wz.o.size)) (K3.o.below r9.o);have RA:=ky;have RZ:=kz;have y4:=HI.o.rst 4 rfl;obtain ⟨rf,rM⟩:=bH K3.o rfl rfl;obtain ⟨lg,lv⟩:=gm K3.o;refine aH (t:=0) ?_;refine av rfl fun K' hK=>?_;go_simp;refine hK.o _ _ ?_;clear hK;refine aO ?_;have s0:∀ {v':Value} {n':Nat},RN W v' n'→RN (storeAll W (w.heap.size+1+1) 0 [.bool (ai z),.slice si (ae z) sj]) v' n':=fun h'=>bC _ h' K3.o (by simp[bS]) (by simp[bi]);exact⟨rfl,pq,ol,si,sj,(HI.o.finx ⟨HI.o.sx HA.o 0,HI.o.sx HA.o 1,HI.o.sx HA.o 2,HI.o.sx HA.o 3,HI.o.sx HA.o 4,HI.o.sx HA.o 5,HI.o.sx HA.o 6,HI.o.sx HA.o 7,HI.o.sx HA.o 8,x9,x10,trivial⟩ rfl),(au (l:=[.bool (ai z),.slice si (ae z) sj]) (i:=0) (by omega) mi.o),(bO (l:=[.bool (ai z),.slice si (ae z) sj]) (i:=0) K3.o),(s0 RZ.o)⟩
 rintro a' W1 ⟨pq,ol,si,sj,rfl,z0,z1,z2⟩;obtain ⟨rV,K3,RZ⟩:=ax z0 z1 z2;clear z0 z1 z2;simp only[aR,List.setIfInBounds_toArray,List.set_cons_zero,List.set_cons_succ];go_wp2;obtain ⟨rf,rM⟩:=bH K3.o rfl rfl;exact bodyPost_ret (v:=.agg #[.bool (ai z),.slice si (ae z) sj]) (by simp[results,Tryz.results83,go_sem,rf,rM]) rfl ⟨_,_,rfl,RZ.o,rV.o⟩
