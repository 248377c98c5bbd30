/- texts -/
import Derived.Test.YtoaeaiiabelhkaaGreatDoorMz27q
namespace Go.Proofs.YtoaeaiiabelhkaaGreatDoor
open Go.RowKit Go.Gb
def ah (z:Int):Bool:=decide (z<0)
def ag (n:Nat):Nat:=(ae n).length
def aa (z:Int):Nat:=ag z.natAbs
def RN (w:World) (v:Value) (n:Nat):Prop:=Rd .u32 w v (ae n)
theorem RN.below {w w':World}{v:Value}{n:Nat}(h:RN w v n)(hb:Below w.heap.size w w'):RN w' v n:=Rd.below h hb
theorem RN.sh {w:World}{v:Value}{n:Nat}(h:RN w v n):∃ p c,v=.slice p (ag n) c:=aW h
theorem aX {v:Value}{n g:Nat}{T:TypeId}(l:List Value){w:World}{cs:Array Value}(h:RN w v n)(hg:SBk w g cs T)(hn:bJ cs=true)(hl:l.all aU=true):RN (storeAll w g 0 l) v n:=mW l 0 h hg hn hl
theorem Rz.sh {w:World}{u:Value}{z:Int}(h:Rz w u z):∃ p c,u=.agg #[.bool (ah z),.slice p (aa z) c]∧RN w (.slice p (aa z) c) z.natAbs:=iZ h
theorem Rz.mk {w:World}{p:Option Addr}{c:Nat}{z:Int}(h:RN w (.slice p (aa z) c) z.natAbs):Rz w (.agg #[.bool (ah z),.slice p (aa z) c]) z:=⟨_,rfl,h⟩
def Rel.nat (n:Nat):Rel:=⟨fun v W=>∃ p c,v=.slice p (ag n) c∧RN W (.slice p (ag n) c) n,fun _ _ _ ⟨p,c,e,h⟩ hb=>⟨p,c,e,h.below hb⟩⟩
def Rel.int (z:Int):Rel:=⟨fun v W=>∃ p c,v=.agg #[.bool (ah z),.slice p (aa z) c]∧RN W (.slice p (aa z) c) z.natAbs,fun _ _ _ ⟨p,c,e,h⟩ hb=>⟨p,c,e,h.below hb⟩⟩
def HZ (w:World) (g:Nat) (z:Int):Prop:=∃ p c,SBk w g #[.bool (ah z),.slice p (aa z) c] 47∧RN w (.slice p (aa z) c) z.natAbs
theorem cCmp (v1 v2:Value)(a b:Nat)(hl:ag a≤1000000)(w:World)(h1:RN w v1 a)(h2:RN w v2 b) :
 CR 52 #[v1,v2] w (.int .i64 (cmpN a b)):=nu v1 v2 a b hl w h1 h2
theorem z7s (v1 v2:Value)(a b:Nat)(hb:b≠0)(hl:ag a≤50000)(w:World)(h1:RN w v1 a)(h2:RN w v2 b) :
 Calls Tryz.prog 90 #[v1,v2] w fun e w'=>∃ p c p' c',e=.returned (.tuple #[.slice p (ag (a / b)) c,.slice p' (ag (a%b)) c'])∧RN w' (.slice p (ag (a / b)) c) (a / b)∧RN w' (.slice p' (ag (a%b)) c') (a%b)∧Below w.heap.size w w':=by
 refine(uZ v1 v2 a b hb hl w h1 h2).mono ?_;rintro e w' ⟨q,r,rfl,hq,hr,hB⟩;obtain⟨p,c,rfl⟩:=RN.sh hq;obtain⟨p',c',rfl⟩:=RN.sh hr;exact⟨p,c,p',c',rfl,hq,hr,hB⟩
theorem nO {f:FuncId}{args:Array Value}{w:World}{n:Nat}(h:Calls Tryz.prog f args w fun e w'=>∃ v,e=.returned v∧Gb.Own .u32 82 w.heap.size w' v (ae n)∧Below w.heap.size w w') :
 Calls Tryz.prog f args w fun e w'=>∃ p c,e=.returned (.slice p (ag n) c)∧RN w' (.slice p (ag n) c) n∧Below w.heap.size w w':=by
 refine h.mono ?_;rintro e w' ⟨v,rfl,ho,hb⟩;obtain⟨p,c,rfl⟩:=RN.sh ho.rd;exact⟨p,c,rfl,ho.rd,hb⟩
theorem z7r (v1 v2:Value)(a b:Nat)(hla:ag a≤100000)(hlb:ag b≤100000)(w:World)(h1:RN w v1 a)(h2:RN w v2 b) :
 Calls Tryz.prog 133 #[v1,v2] w fun e w'=>∃ p c,e=.returned (.slice p (ag (a+b)) c)∧RN w' (.slice p (ag (a+b)) c) (a+b)∧Below w.heap.size w w':=nO (z2h v1 v2 a b hla hlb w h1 h2)
theorem z4G (v1 v2:Value)(a b:Nat)(hab:b≤a)(hla:ag a≤100000)(w:World)(h1:RN w v1 a)(h2:RN w v2 b) :
 Calls Tryz.prog 134 #[v1,v2] w fun e w'=>∃ p c,e=.returned (.slice p (ag (a-b)) c)∧RN w' (.slice p (ag (a-b)) c) (a-b)∧Below w.heap.size w w':=nO (z09 v1 v2 a b hab hla w h1 h2)
theorem ou (v1 v2:Value)(a b:Nat)(hla:ag a≤100000)(hlb:ag b≤100000)(w:World)(h1:RN w v1 a)(h2:RN w v2 b) :
 Calls Tryz.prog 65 #[v1,v2] w fun e w'=>∃ p c,e=.returned (.slice p (ag (a*b)) c)∧RN w' (.slice p (ag (a*b)) c) (a*b)∧Below w.heap.size w w':=nO (mr v1 v2 a b hla hlb w h1 h2)
theorem z6B (n:Nat)(hn:n<4294967296)(w:World) :
 Calls Tryz.prog 51 #[.int .u32 (n:Int)] w fun e w'=>∃ p c,e=.returned (.slice p (ag n) c)∧RN w' (.slice p (ag n) c) n∧Below w.heap.size w w':=nO (wW n hn w)
theorem jf (k:Int)(n:Nat)(hk:(n:Int)=k)(hn:n<4294967296)(w:World) :
 Calls Tryz.prog 51 #[.int .u32 k] w fun e w'=>∃ p c,e=.returned (.slice p (ag n) c)∧RN w' (.slice p (ag n) c) n∧Below w.heap.size w w':=by subst hk;exact z6B n hn w
theorem ow (v1 v2:Value)(a b g:Nat)(hg:Nat.gcd a b=g)(hla:ag a≤50000)(hlb:ag b≤50000)(w:World)(h1:RN w v1 a)(h2:RN w v2 b) :
 Calls Tryz.prog 54 #[v1,v2] w fun e w'=>∃ p c,e=.returned (.slice p (ag g) c)∧RN w' (.slice p (ag g) c) g∧Below w.heap.size w w':=by
 subst hg;refine(wX v1 v2 a b hla hlb w h1 h2).mono ?_;rintro e w' ⟨v,rfl,hr,hb⟩;obtain⟨p,c,rfl⟩:=RN.sh hr;exact⟨p,c,rfl,hr,hb⟩
theorem zm {f:FuncId}{args:Array Value}{w:World}{z:Int}(h:Calls Tryz.prog f args w fun e w'=>∃ u,e=.returned u∧Rz w' u z∧Below w.heap.size w w') :
 Calls Tryz.prog f args w fun e w'=>∃ p c,e=.returned (.agg #[.bool (ah z),.slice p (aa z) c])∧RN w' (.slice p (aa z) c) z.natAbs∧Below w.heap.size w w':=by
 refine h.mono ?_;rintro e w' ⟨u,rfl,hu,hb⟩;obtain⟨p,c,rfl,r⟩:=hu.sh;exact⟨p,c,rfl,r,hb⟩
theorem lq (b:Bool)(v:Value)(n:Nat)(z:Int)(hz:z=if b then -(n:Int) else (n:Int))(hl:ag n≤1000000)(w:World)(h:RN w v n) :
 Calls Tryz.prog 64 #[.bool b,v] w fun e w'=>∃ p c,e=.returned (.agg #[.bool (ah z),.slice p (aa z) c])∧RN w' (.slice p (aa z) c) z.natAbs∧Below w.heap.size w w':=zm (z6S b v n z hz hl w h)
theorem jM:ag 1=1:=by decide +kernel
theorem gN {a b:Nat}(h:a≤b):ag a≤ag b:=aP h
instance {W W':World}{v:Value}{n:Nat}:Gr (RN W v n) W W' (RN W' v n):=⟨fun h k=>k.below h⟩
abbrev CZ (f : FuncId) (args : Array Value) (w : World) (z : Int) : Prop := Calls Tryz.prog f args w fun e w' => ∃ p c, e = .returned (.agg #[.bool (ah z), .slice p (aa z) c]) ∧ RN w' (.slice p (aa z) c) z.natAbs ∧ Below w.heap.size w w'
abbrev CN (f : FuncId) (args : Array Value) (w : World) (n : Nat) : Prop := Calls Tryz.prog f args w fun e w' => ∃ p c, e = .returned (.slice p (ag n) c) ∧ RN w' (.slice p (ag n) c) n ∧ Below w.heap.size w w'
abbrev CF (f : FuncId) (args : Array Value) (w : World) (z : Int) (n : Nat) : Prop := Calls Tryz.prog f args w fun e w' => ∃ p c s d, e = .returned (.agg #[.bool (ah z), .slice p (aa z) c, .slice s (ag n) d]) ∧ RN w' (.slice p (aa z) c) z.natAbs ∧ RN w' (.slice s (ag n) d) n ∧ Below w.heap.size w w'
end Go.Proofs.YtoaeaiiabelhkaaGreatDoor
set_option maxRecDepth 100000
set_option maxHeartbeats 20000000
open Go.Lib (hid)
namespace Go.Proofs.YtoaeaiiabelhkaaGreatDoor
open Go.RowKit Go.Gb
theorem qP {f:FuncId}{args:Array Value}{w:World}{z:Int}{b:Bool}{L:Nat}(hb:decide (z<0)=b)(hL:(ae z.natAbs).length=L)(h:Calls Tryz.prog f args w fun e w'=>∃ u,e=.returned u∧Rz w' u z∧Below w.heap.size w w') :
 Calls Tryz.prog f args w fun e w'=>∃ p c,e=.returned (.agg #[.bool b,.slice p L c])∧Rd .u32 w' (.slice p L c) (ae z.natAbs)∧Below w.heap.size w w':=by
 refine h.mono ?_;rintro e w' ⟨u,rfl,hu,hbl⟩;obtain⟨p,c,rfl,hr⟩:=iZ hu;rw[hb,hL];rw[hL]at hr;exact⟨p,c,rfl,hr,hbl⟩
theorem z02 (za zb z:Int)(n:Nat)(hs:(ah za==ah zb)=true)(p1:Option Addr)(c1:Nat)(p2:Option Addr)(c2:Nat)(w:World)(h1:∀ p1 c1 p2 c2 W,RN W (.slice p1 (aa za) c1) za.natAbs→RN W (.slice p2 (aa zb) c2) zb.natAbs→CN 133 #[.slice p1 (aa za) c1,.slice p2 (aa zb) c2] W n)(h2:∀ s2 d2 W,RN W (.slice s2 (ag n) d2) n→CZ 64 #[.bool (ah za),.slice s2 (ag n) d2] W z)(r1:RN w (.slice p1 (aa za) c1) za.natAbs)(r2:RN w (.slice p2 (aa zb) c2) zb.natAbs) :
 CZ 93 #[.agg #[.bool (ah za),.slice p1 (aa za) c1],.agg #[.bool (ah zb),.slice p2 (aa zb) c2]] w z:=by
 obtain ⟨C1,C2,R1,R2⟩:=aN h1 h2 r1 r2;have s0:(ah za==ah zb)=true:=hs;clear hs h1 h2 r1 r2;go_enter Tryz.func93,Tryz.ntmps93
 go_upto_region 1 with fail
 refine av w [(#[.bool (ah za),.slice p1 (aa za) c1],47),(#[.bool (ah zb),.slice p2 (aa zb) c2],47),(#[.bool false,.slice none 0 0],47)] rfl ?_;rintro W0 ⟨k1,k2,k3,hb⟩;have ww:=hid (show Below w.heap.size w W0 from hb);obtain ⟨R1,R2⟩:=aK ww.o R1 R2;obtain ⟨K1,K2,K3⟩:=ak k1 k2 k3;clear k1 k2 k3 hb;have pq:=K1.o.cell (i:=0) rfl;have oM:=K2.o.cell (i:=0) rfl;go_wp2_with fail
 clear pq oM;refine ay (fun a0 a' V=>∃ w9 wm u6 uu,a'=⟨putL [(10,.pointer (some ⟨w.heap.size,0,none⟩)),(11,.bool (ah za)),(12,.pointer (some ⟨w.heap.size,1,none⟩)),(13,.slice p1 (aa za) c1),(14,.pointer (some ⟨w.heap.size+1,1,none⟩)),(15,.slice p2 (aa zb) c2),(16,.slice w9 (ag n) wm),(17,.agg #[.bool (ah z),.slice u6 (aa z) uu])] a0.tmps,a0.defers⟩∧Below w.heap.size w V∧SBk V (w.heap.size+1+1) #[.bool (ah z),.slice u6 (aa z) uu] 47∧RN V (.slice u6 (aa z) uu) z.natAbs) ?_ ?_
 · refine aH 8 1 [10,11,12,13,14,15,16,17] [Rel.val (.pointer (some ⟨w.heap.size,0,none⟩)),Rel.val (.bool (ah za)),Rel.val (.pointer (some ⟨w.heap.size,1,none⟩)),Rel.val (.slice p1 (aa za) c1),Rel.val (.pointer (some ⟨w.heap.size+1,1,none⟩)),Rel.val (.slice p2 (aa zb) c2),Rel.nat n,Rel.int z] ?_ ?_
   · intro oV a W i HI hD Hr him
     obtain⟨y2,y3⟩:=HI.o.s2 2 3;obtain ⟨pq,ny⟩:=aC (K1.o.below HI.o.world) rfl rfl;have ma:=(K2.o.below HI.o.world).cell (i:=1) rfl;obtain⟨X0,X2,X4,X3,X5,X1⟩:=HI.o.g6 0 10 2 12 4 14 3 13 5 15 1 11
     match i,him,Hr with
     | 0,_,Hi|1,_,Hi|2,_,Hi|3,_,Hi|4,_,Hi|5,_,Hi =>
       try have x0:=X0.t Hi.o
       try have x2:=X2.t Hi.o
       try have x4:=X4.t Hi.o
       refine stepH rfl fun K' hK=>?_;go_simp;exact hK.o _ _ (HI.o.pw Hi.o)
     | 6,_,Hi =>
       have x3:=X3.q Hi.o;have x5:=X5.q Hi.o;refine stepH rfl fun K' hK=>?_;go_simp;with_reducible refine(C1.o _ _ _ _ _ (R1.o.below HI.o.world) (R2.o.below HI.o.world)).mono ?_
       rintro e W' ⟨w9,wm,rfl,wo,hb⟩;exact hK.o _ _ ⟨HI.o.pc Hi.o hb ⟨w9,wm,rfl,wo⟩,trivial⟩
     | 7,_,Hi =>
       have x1:=X1.q Hi.o;obtain⟨v',x6,w9,wm,e,wo⟩:=HI.o.at (i:=6) Hi.o (by kernel_rfl) (by decide);obtain rfl:=e;have x6:a.tmps[16]? = some (.slice w9 (ag n) wm):=x6;have su:=hid wo;clear wo;refine stepH rfl fun K' hK=>?_;go_simp;with_reducible refine(C2.o _ _ _ su.o).mono ?_
       rintro e W' ⟨u6,uu,rfl,wu,hb⟩;exact hK.o _ _ ⟨HI.o.pc Hi.o hb ⟨u6,uu,rfl,wu⟩,trivial⟩
     | n+8,h,_=>exact absurd h (by omega)
   · intro oV a W HI hD HA
     obtain⟨v',x6,w9,wm,e,wo⟩:=HI.o.slots 6 (by decide) (HA.o 6 (by decide));obtain rfl:=e;have su:=hid wo;clear wo;obtain⟨v',x7,u6,uu,e,wu⟩:=HI.o.slots 7 (by decide) (HA.o 7 (by decide));obtain rfl:=e;have l5:=hid wu;clear wu;have x7:a.tmps[17]? = some (.agg #[.bool (ah z),.slice u6 (aa z) uu]):=x7;have sw:=hid HI.o.world;obtain ⟨mf,K3⟩:=aB (ww.o.trans (sw.o.mono ww.o.size)) (K3.o.below sw.o);have RA:=su;have RZ:=l5;have y4:=HI.o.rst 4 rfl;obtain ⟨rM,rV⟩:=aC K3.o rfl rfl;obtain ⟨lg,ll⟩:=aS K3.o;refine aZ (t:=0) ?_;refine stepH rfl fun K' hK=>?_;go_simp;refine hK.o _ _ ?_;clear hK;refine aV ?_;have s0:∀ {v':Value} {n':Nat},RN W v' n'→RN (storeAll W (w.heap.size+1+1) 0 [.bool (ah z),.slice u6 (aa z) uu]) v' n':=fun h'=>aX _ h' K3.o (by simp[bJ]) (by simp[aU]);exact⟨rfl,w9,wm,u6,uu,(HI.o.finx ⟨HI.o.sx HA.o 0,HI.o.sx HA.o 1,HI.o.sx HA.o 2,HI.o.sx HA.o 3,HI.o.sx HA.o 4,HI.o.sx HA.o 5,x6,x7,trivial⟩ rfl),(aj (l:=[.bool (ah z),.slice u6 (aa z) uu]) (i:=0) (by omega) mf.o),(bK (l:=[.bool (ah z),.slice u6 (aa z) uu]) (i:=0) K3.o),(s0 RZ.o)⟩
 rintro a' W1 ⟨w9,wm,u6,uu,rfl,z0,z1,z2⟩;obtain ⟨p8,K3,RZ⟩:=ak z0 z1 z2;clear z0 z1 z2;simp only[putL,List.setIfInBounds_toArray,List.set_cons_zero,List.set_cons_succ];go_wp2;obtain ⟨rM,rV⟩:=aC K3.o rfl rfl;exact bodyPost_ret (v:=.agg #[.bool (ah z),.slice u6 (aa z) uu]) (by simp[results,Tryz.results93,go_sem,rM,rV]) rfl ⟨_,_,rfl,RZ.o,p8.o⟩
theorem z3W (za zb z:Int)(n:Nat)(k:Int)(hk:0≤k)(hs:(ah za==ah zb)=false)(p1:Option Addr)(c1:Nat)(p2:Option Addr)(c2:Nat)(w:World)(h3:∀ p1 c1 p2 c2 W,RN W (.slice p1 (aa za) c1) za.natAbs→RN W (.slice p2 (aa zb) c2) zb.natAbs→CR 52 #[.slice p1 (aa za) c1,.slice p2 (aa zb) c2] W (.int .i64 k))(h4:∀ p1 c1 p2 c2 W,RN W (.slice p1 (aa za) c1) za.natAbs→RN W (.slice p2 (aa zb) c2) zb.natAbs→CN 134 #[.slice p1 (aa za) c1,.slice p2 (aa zb) c2] W n)(h2:∀ s2 d2 W,RN W (.slice s2 (ag n) d2) n→CZ 64 #[.bool (ah za),.slice s2 (ag n) d2] W z)(r1:RN w (.slice p1 (aa za) c1) za.natAbs)(r2:RN w (.slice p2 (aa zb) c2) zb.natAbs) :
 CZ 93 #[.agg #[.bool (ah za),.slice p1 (aa za) c1],.agg #[.bool (ah zb),.slice p2 (aa zb) c2]] w z:=by
 obtain ⟨C3,C4,C2,R1,R2⟩:=bz h3 h4 h2 r1 r2;have s0:(ah za==ah zb)=false:=hs;clear hs;have k0:decide (0≤k)=true:=decide_eq_true hk;have k1:0≤k:=hk;clear hk h3 h4 h2 r1 r2;go_enter Tryz.func93,Tryz.ntmps93
 go_upto_region 1 with fail
 refine av w [(#[.bool (ah za),.slice p1 (aa za) c1],47),(#[.bool (ah zb),.slice p2 (aa zb) c2],47),(#[.bool false,.slice none 0 0],47)] rfl ?_;rintro W0 ⟨k1,k2,k3,hb⟩;have ww:=hid (show Below w.heap.size w W0 from hb);obtain ⟨R1,R2⟩:=aK ww.o R1 R2;obtain ⟨K1,K2,K3⟩:=ak k1 k2 k3;clear k1 k2 k3 hb;have pq:=K1.o.cell (i:=0) rfl;have oM:=K2.o.cell (i:=0) rfl;have ny:=K1.o.cell (i:=1) rfl;have ma:=K2.o.cell (i:=1) rfl;go_wp2_with fail
 with_reducible refine(C3.o _ _ _ _ _ R1.o R2.o).mono ?_
 rintro e W1 ⟨rfl,hb⟩;clear pq oM ny ma;obtain ⟨K1,K2,K3,R1,R2⟩:=gm hb K1 K2 K3 R1 R2;have p8:=hbt ww hb;clear hb;go_wp2_with fail
 refine ay (fun a0 a' V=>∃ w9 wm u6 uu,a'=⟨putL [(24,.pointer (some ⟨w.heap.size,0,none⟩)),(25,.bool (ah za)),(26,.pointer (some ⟨w.heap.size,1,none⟩)),(27,.slice p1 (aa za) c1),(28,.pointer (some ⟨w.heap.size+1,1,none⟩)),(29,.slice p2 (aa zb) c2),(30,.slice w9 (ag n) wm),(31,.agg #[.bool (ah z),.slice u6 (aa z) uu])] a0.tmps,a0.defers⟩∧Below w.heap.size w V∧SBk V (w.heap.size+1+1) #[.bool (ah z),.slice u6 (aa z) uu] 47∧RN V (.slice u6 (aa z) uu) z.natAbs) ?_ ?_
 · refine aH 8 1 [24,25,26,27,28,29,30,31] [Rel.val (.pointer (some ⟨w.heap.size,0,none⟩)),Rel.val (.bool (ah za)),Rel.val (.pointer (some ⟨w.heap.size,1,none⟩)),Rel.val (.slice p1 (aa za) c1),Rel.val (.pointer (some ⟨w.heap.size+1,1,none⟩)),Rel.val (.slice p2 (aa zb) c2),Rel.nat n,Rel.int z] ?_ ?_
   · intro oV a W i HI hD Hr him
     obtain⟨y2,y3⟩:=HI.o.s2 2 3;obtain ⟨pq,ny⟩:=aC (K1.o.below HI.o.world) rfl rfl;have ma:=(K2.o.below HI.o.world).cell (i:=1) rfl;obtain⟨X0,X2,X4,X3,X5,X1⟩:=HI.o.g6 0 24 2 26 4 28 3 27 5 29 1 25
     match i,him,Hr with
     | 0,_,Hi|1,_,Hi|2,_,Hi|3,_,Hi|4,_,Hi|5,_,Hi =>
       try have x0:=X0.t Hi.o
       try have x2:=X2.t Hi.o
       try have x4:=X4.t Hi.o
       refine stepH rfl fun K' hK=>?_;go_simp;exact hK.o _ _ (HI.o.pw Hi.o)
     | 6,_,Hi =>
       have x3:=X3.q Hi.o;have x5:=X5.q Hi.o;refine stepH rfl fun K' hK=>?_;go_simp;with_reducible refine(C4.o _ _ _ _ _ (R1.o.below HI.o.world) (R2.o.below HI.o.world)).mono ?_
       rintro e W' ⟨w9,wm,rfl,wo,hb⟩;exact hK.o _ _ ⟨HI.o.pc Hi.o hb ⟨w9,wm,rfl,wo⟩,trivial⟩
     | 7,_,Hi =>
       have x1:=X1.q Hi.o;obtain⟨v',x6,w9,wm,e,wo⟩:=HI.o.at (i:=6) Hi.o (by kernel_rfl) (by decide);obtain rfl:=e;have x6:a.tmps[30]? = some (.slice w9 (ag n) wm):=x6;have su:=hid wo;clear wo;refine stepH rfl fun K' hK=>?_;go_simp;with_reducible refine(C2.o _ _ _ su.o).mono ?_
       rintro e W' ⟨u6,uu,rfl,wu,hb⟩;exact hK.o _ _ ⟨HI.o.pc Hi.o hb ⟨u6,uu,rfl,wu⟩,trivial⟩
     | n+8,h,_=>exact absurd h (by omega)
   · intro oV a W HI hD HA
     obtain⟨v',x6,w9,wm,e,wo⟩:=HI.o.slots 6 (by decide) (HA.o 6 (by decide));obtain rfl:=e;have su:=hid wo;clear wo;obtain⟨v',x7,u6,uu,e,wu⟩:=HI.o.slots 7 (by decide) (HA.o 7 (by decide));obtain rfl:=e;have l5:=hid wu;clear wu;have x7:a.tmps[31]? = some (.agg #[.bool (ah z),.slice u6 (aa z) uu]):=x7;have sw:=hid HI.o.world;obtain ⟨mf,K3⟩:=aB (p8.o.trans (sw.o.mono p8.o.size)) (K3.o.below sw.o);have RA:=su;have RZ:=l5;have y4:=HI.o.rst 4 rfl;obtain ⟨rM,rV⟩:=aC K3.o rfl rfl;obtain ⟨lg,ll⟩:=aS K3.o;refine aZ (t:=0) ?_;refine stepH rfl fun K' hK=>?_;go_simp;refine hK.o _ _ ?_;clear hK;refine aV ?_;have s0:∀ {v':Value} {n':Nat},RN W v' n'→RN (storeAll W (w.heap.size+1+1) 0 [.bool (ah z),.slice u6 (aa z) uu]) v' n':=fun h'=>aX _ h' K3.o (by simp[bJ]) (by simp[aU]);exact⟨rfl,w9,wm,u6,uu,(HI.o.finx ⟨HI.o.sx HA.o 0,HI.o.sx HA.o 1,HI.o.sx HA.o 2,HI.o.sx HA.o 3,HI.o.sx HA.o 4,HI.o.sx HA.o 5,x6,x7,trivial⟩ rfl),(aj (l:=[.bool (ah z),.slice u6 (aa z) uu]) (i:=0) (by omega) mf.o),(bK (l:=[.bool (ah z),.slice u6 (aa z) uu]) (i:=0) K3.o),(s0 RZ.o)⟩
 rintro a' W2 ⟨w9,wm,u6,uu,rfl,z0,z1,z2⟩;obtain ⟨lv,K3,RZ⟩:=ak z0 z1 z2;clear z0 z1 z2;simp only[putL,List.setIfInBounds_toArray,List.set_cons_zero,List.set_cons_succ];go_wp2;obtain ⟨rM,rV⟩:=aC K3.o rfl rfl;exact bodyPost_ret (v:=.agg #[.bool (ah z),.slice u6 (aa z) uu]) (by simp[results,Tryz.results93,go_sem,rM,rV]) rfl ⟨_,_,rfl,RZ.o,lv.o⟩
theorem z3V (za zb z:Int)(n:Nat)(k:Int)(hk:k<0)(hs:(ah za==ah zb)=false)(p1:Option Addr)(c1:Nat)(p2:Option Addr)(c2:Nat)(w:World)(h3:∀ p1 c1 p2 c2 W,RN W (.slice p1 (aa za) c1) za.natAbs→RN W (.slice p2 (aa zb) c2) zb.natAbs→CR 52 #[.slice p1 (aa za) c1,.slice p2 (aa zb) c2] W (.int .i64 k))(h4:∀ p1 c1 p2 c2 W,RN W (.slice p1 (aa zb) c1) zb.natAbs→RN W (.slice p2 (aa za) c2) za.natAbs→CN 134 #[.slice p1 (aa zb) c1,.slice p2 (aa za) c2] W n)(h2:∀ s2 d2 W,RN W (.slice s2 (ag n) d2) n→CZ 64 #[.bool (ah zb),.slice s2 (ag n) d2] W z)(r1:RN w (.slice p1 (aa za) c1) za.natAbs)(r2:RN w (.slice p2 (aa zb) c2) zb.natAbs) :
 CZ 93 #[.agg #[.bool (ah za),.slice p1 (aa za) c1],.agg #[.bool (ah zb),.slice p2 (aa zb) c2]] w z:=by
 obtain ⟨C3,C4,C2,R1,R2⟩:=bz h3 h4 h2 r1 r2;have s0:(ah za==ah zb)=false:=hs;clear hs;have k0:decide (0≤k)=false:=decide_eq_false (by omega);have k1:¬ 0≤k:=by omega
 clear hk h3 h4 h2 r1 r2;go_enter Tryz.func93,Tryz.ntmps93
 go_upto_region 1 with fail
 refine av w [(#[.bool (ah za),.slice p1 (aa za) c1],47),(#[.bool (ah zb),.slice p2 (aa zb) c2],47),(#[.bool false,.slice none 0 0],47)] rfl ?_;rintro W0 ⟨k1,k2,k3,hb⟩;have ww:=hid (show Below w.heap.size w W0 from hb);obtain ⟨R1,R2⟩:=aK ww.o R1 R2;obtain ⟨K1,K2,K3⟩:=ak k1 k2 k3;clear k1 k2 k3 hb;have pq:=K1.o.cell (i:=0) rfl;have oM:=K2.o.cell (i:=0) rfl;have ny:=K1.o.cell (i:=1) rfl;have ma:=K2.o.cell (i:=1) rfl;go_wp2_with fail
 with_reducible refine(C3.o _ _ _ _ _ R1.o R2.o).mono ?_
 rintro e W1 ⟨rfl,hb⟩;clear pq oM ny ma;obtain ⟨K1,K2,K3,R1,R2⟩:=gm hb K1 K2 K3 R1 R2;have p8:=hbt ww hb;clear hb;go_wp2_with fail
 refine ay (fun a0 a' V=>∃ w9 wm u6 uu,a'=⟨putL [(32,.pointer (some ⟨w.heap.size+1,0,none⟩)),(33,.bool (ah zb)),(34,.pointer (some ⟨w.heap.size+1,1,none⟩)),(35,.slice p2 (aa zb) c2),(36,.pointer (some ⟨w.heap.size,1,none⟩)),(37,.slice p1 (aa za) c1),(38,.slice w9 (ag n) wm),(39,.agg #[.bool (ah z),.slice u6 (aa z) uu])] a0.tmps,a0.defers⟩∧Below w.heap.size w V∧SBk V (w.heap.size+1+1) #[.bool (ah z),.slice u6 (aa z) uu] 47∧RN V (.slice u6 (aa z) uu) z.natAbs) ?_ ?_
 · refine aH 8 1 [32,33,34,35,36,37,38,39] [Rel.val (.pointer (some ⟨w.heap.size+1,0,none⟩)),Rel.val (.bool (ah zb)),Rel.val (.pointer (some ⟨w.heap.size+1,1,none⟩)),Rel.val (.slice p2 (aa zb) c2),Rel.val (.pointer (some ⟨w.heap.size,1,none⟩)),Rel.val (.slice p1 (aa za) c1),Rel.nat n,Rel.int z] ?_ ?_
   · intro oV a W i HI hD Hr him
     obtain⟨y3,y2⟩:=HI.o.s2 3 2;obtain ⟨oM,ma⟩:=aC (K2.o.below HI.o.world) rfl rfl;have ny:=(K1.o.below HI.o.world).cell (i:=1) rfl;obtain⟨X0,X2,X4,X3,X5,X1⟩:=HI.o.g6 0 32 2 34 4 36 3 35 5 37 1 33
     match i,him,Hr with
     | 0,_,Hi|1,_,Hi|2,_,Hi|3,_,Hi|4,_,Hi|5,_,Hi =>
       try have x0:=X0.t Hi.o
       try have x2:=X2.t Hi.o
       try have x4:=X4.t Hi.o
       refine stepH rfl fun K' hK=>?_;go_simp;exact hK.o _ _ (HI.o.pw Hi.o)
     | 6,_,Hi =>
       have x3:=X3.q Hi.o;have x5:=X5.q Hi.o;refine stepH rfl fun K' hK=>?_;go_simp;with_reducible refine(C4.o _ _ _ _ _ (R2.o.below HI.o.world) (R1.o.below HI.o.world)).mono ?_
       rintro e W' ⟨w9,wm,rfl,wo,hb⟩;exact hK.o _ _ ⟨HI.o.pc Hi.o hb ⟨w9,wm,rfl,wo⟩,trivial⟩
     | 7,_,Hi =>
       have x1:=X1.q Hi.o;obtain⟨v',x6,w9,wm,e,wo⟩:=HI.o.at (i:=6) Hi.o (by kernel_rfl) (by decide);obtain rfl:=e;have x6:a.tmps[38]? = some (.slice w9 (ag n) wm):=x6;have su:=hid wo;clear wo;refine stepH rfl fun K' hK=>?_;go_simp;with_reducible refine(C2.o _ _ _ su.o).mono ?_
       rintro e W' ⟨u6,uu,rfl,wu,hb⟩;exact hK.o _ _ ⟨HI.o.pc Hi.o hb ⟨u6,uu,rfl,wu⟩,trivial⟩
     | n+8,h,_=>exact absurd h (by omega)
   · intro oV a W HI hD HA
     obtain⟨v',x6,w9,wm,e,wo⟩:=HI.o.slots 6 (by decide) (HA.o 6 (by decide));obtain rfl:=e;have su:=hid wo;clear wo;obtain⟨v',x7,u6,uu,e,wu⟩:=HI.o.slots 7 (by decide) (HA.o 7 (by decide));obtain rfl:=e;have l5:=hid wu;clear wu;have x7:a.tmps[39]? = some (.agg #[.bool (ah z),.slice u6 (aa z) uu]):=x7;have sw:=hid HI.o.world;obtain ⟨mf,K3⟩:=aB (p8.o.trans (sw.o.mono p8.o.size)) (K3.o.below sw.o);have RA:=su;have RZ:=l5;have y4:=HI.o.rst 4 rfl;obtain ⟨rM,rV⟩:=aC K3.o rfl rfl;obtain ⟨lg,ll⟩:=aS K3.o;refine aZ (t:=0) ?_;refine stepH rfl fun K' hK=>?_;go_simp;refine hK.o _ _ ?_;clear hK;refine aV ?_;have s0:∀ {v':Value} {n':Nat},RN W v' n'→RN (storeAll W (w.heap.size+1+1) 0 [.bool (ah z),.slice u6 (aa z) uu]) v' n':=fun h'=>aX _ h' K3.o (by simp[bJ]) (by simp[aU]);exact⟨rfl,w9,wm,u6,uu,(HI.o.finx ⟨HI.o.sx HA.o 0,HI.o.sx HA.o 1,HI.o.sx HA.o 2,HI.o.sx HA.o 3,HI.o.sx HA.o 4,HI.o.sx HA.o 5,x6,x7,trivial⟩ rfl),(aj (l:=[.bool (ah z),.slice u6 (aa z) uu]) (i:=0) (by omega) mf.o),(bK (l:=[.bool (ah z),.slice u6 (aa z) uu]) (i:=0) K3.o),(s0 RZ.o)⟩
 rintro a' W2 ⟨w9,wm,u6,uu,rfl,z0,z1,z2⟩;obtain ⟨lv,K3,RZ⟩:=ak z0 z1 z2;clear z0 z1 z2;simp only[putL,List.setIfInBounds_toArray,List.set_cons_zero,List.set_cons_succ];go_wp2;obtain ⟨rM,rV⟩:=aC K3.o rfl rfl;exact bodyPost_ret (v:=.agg #[.bool (ah z),.slice u6 (aa z) uu]) (by simp[results,Tryz.results93,go_sem,rM,rV]) rfl ⟨_,_,rfl,RZ.o,lv.o⟩
theorem z01 (za zb z:Int)(n:Nat)(p1:Option Addr)(c1:Nat)(p2:Option Addr)(c2:Nat)(w:World)(h1:∀ p1 c1 p2 c2 W,RN W (.slice p1 (aa za) c1) za.natAbs→RN W (.slice p2 (aa zb) c2) zb.natAbs→CN 65 #[.slice p1 (aa za) c1,.slice p2 (aa zb) c2] W n)(h2:∀ s2 d2 W,RN W (.slice s2 (ag n) d2) n→CZ 64 #[.bool (ah za != ah zb),.slice s2 (ag n) d2] W z)(r1:RN w (.slice p1 (aa za) c1) za.natAbs)(r2:RN w (.slice p2 (aa zb) c2) zb.natAbs) :
 CZ 92 #[.agg #[.bool (ah za),.slice p1 (aa za) c1],.agg #[.bool (ah zb),.slice p2 (aa zb) c2]] w z:=by
 obtain ⟨C1,C2,R1,R2⟩:=aN h1 h2 r1 r2;clear h1 h2 r1 r2;go_enter Tryz.func92,Tryz.ntmps92
 go_upto_region 1 with fail
 refine av w [(#[.bool (ah za),.slice p1 (aa za) c1],47),(#[.bool (ah zb),.slice p2 (aa zb) c2],47),(#[.bool false,.slice none 0 0],47)] rfl ?_;rintro W0 ⟨k1,k2,k3,hb⟩;have ww:=hid (show Below w.heap.size w W0 from hb);obtain ⟨R1,R2⟩:=aK ww.o R1 R2;obtain ⟨K1,K2,K3⟩:=ak k1 k2 k3;clear k1 k2 k3 hb;go_wp2_with fail
 refine ay (fun a0 a' V=>∃ pu ol si sj,a'=⟨putL [(5,.pointer (some ⟨w.heap.size,0,none⟩)),(6,.bool (ah za)),(7,.pointer (some ⟨w.heap.size+1,0,none⟩)),(8,.bool (ah zb)),(9,.bool (ah za != ah zb)),(10,.pointer (some ⟨w.heap.size,1,none⟩)),(11,.slice p1 (aa za) c1),(12,.pointer (some ⟨w.heap.size+1,1,none⟩)),(13,.slice p2 (aa zb) c2),(14,.slice pu (ag n) ol),(15,.agg #[.bool (ah z),.slice si (aa z) sj])] a0.tmps,a0.defers⟩∧Below w.heap.size w V∧SBk V (w.heap.size+1+1) #[.bool (ah z),.slice si (aa z) sj] 47∧RN V (.slice si (aa z) sj) z.natAbs) ?_ ?_
 · refine aH 11 1 [5,6,7,8,9,10,11,12,13,14,15] [Rel.val (.pointer (some ⟨w.heap.size,0,none⟩)),Rel.val (.bool (ah za)),Rel.val (.pointer (some ⟨w.heap.size+1,0,none⟩)),Rel.val (.bool (ah zb)),Rel.val (.bool (ah za != ah zb)),Rel.val (.pointer (some ⟨w.heap.size,1,none⟩)),Rel.val (.slice p1 (aa za) c1),Rel.val (.pointer (some ⟨w.heap.size+1,1,none⟩)),Rel.val (.slice p2 (aa zb) c2),Rel.nat n,Rel.int z] ?_ ?_
   · intro oV a W i HI hD Hr him
     obtain⟨y2,y3⟩:=HI.o.s2 2 3;have pq:=(K1.o.below HI.o.world).cell (i:=0) rfl;have oM:=(K2.o.below HI.o.world).cell (i:=0) rfl;have ny:=(K1.o.below HI.o.world).cell (i:=1) rfl;have ma:=(K2.o.below HI.o.world).cell (i:=1) rfl;obtain⟨X0,X2,X1,X3,X5,X7⟩:=HI.o.g6 0 5 2 7 1 6 3 8 5 10 7 12;obtain⟨X6,X8,X4⟩:=HI.o.g3 6 11 8 13 4 9
     match i,him,Hr with
     | 0,_,Hi|1,_,Hi|2,_,Hi|3,_,Hi|4,_,Hi|5,_,Hi|6,_,Hi|7,_,Hi =>
       try have x0:=X0.t Hi.o
       try have x2:=X2.t Hi.o
       try have x1:=X1.t Hi.o
       try have x3:=X3.t Hi.o
       try have x5:=X5.t Hi.o
       refine stepH rfl fun K' hK=>?_;go_simp;exact hK.o _ _ (HI.o.pw Hi.o)
     | 8,_,Hi =>
       have x7:=X7.q Hi.o;refine stepH rfl fun K' hK=>?_;go_simp;exact hK.o _ _ (HI.o.pw Hi.o)
     | 9,_,Hi =>
       have x6:=X6.q Hi.o;have x8:=X8.q Hi.o;refine stepH rfl fun K' hK=>?_;go_simp;with_reducible refine(C1.o _ _ _ _ _ (R1.o.below HI.o.world) (R2.o.below HI.o.world)).mono ?_
       rintro e W' ⟨pu,ol,rfl,mi,hb⟩;exact hK.o _ _ ⟨HI.o.pc Hi.o hb ⟨pu,ol,rfl,mi⟩,trivial⟩
     | 10,_,Hi =>
       have x4:=X4.q Hi.o;obtain⟨v',x9,pu,ol,e,mi⟩:=HI.o.at (i:=9) Hi.o (by kernel_rfl) (by decide);obtain rfl:=e;have x9:a.tmps[14]? = some (.slice pu (ag n) ol):=x9;have kz:=hid mi;clear mi;refine stepH rfl fun K' hK=>?_;go_simp;with_reducible refine(C2.o _ _ _ kz.o).mono ?_
       rintro e W' ⟨si,sj,rfl,l6,hb⟩;exact hK.o _ _ ⟨HI.o.pc Hi.o hb ⟨si,sj,rfl,l6⟩,trivial⟩
     | n+11,h,_=>exact absurd h (by omega)
   · intro oV a W HI hD HA
     obtain⟨v',x9,pu,ol,e,mi⟩:=HI.o.slots 9 (by decide) (HA.o 9 (by decide));obtain rfl:=e;have kz:=hid mi;clear mi;obtain⟨v',x10,si,sj,e,l6⟩:=HI.o.slots 10 (by decide) (HA.o 10 (by decide));obtain rfl:=e;have kM:=hid l6;clear l6;have x10:a.tmps[15]? = some (.agg #[.bool (ah z),.slice si (aa z) sj]):=x10;have sw:=hid HI.o.world;obtain ⟨mf,K3⟩:=aB (ww.o.trans (sw.o.mono ww.o.size)) (K3.o.below sw.o);have RA:=kz;have RZ:=kM;have y4:=HI.o.rst 4 rfl;obtain ⟨rM,rV⟩:=aC K3.o rfl rfl;obtain ⟨lg,ll⟩:=aS K3.o;refine aZ (t:=0) ?_;refine stepH rfl fun K' hK=>?_;go_simp;refine hK.o _ _ ?_;clear hK;refine aV ?_;have s0:∀ {v':Value} {n':Nat},RN W v' n'→RN (storeAll W (w.heap.size+1+1) 0 [.bool (ah z),.slice si (aa z) sj]) v' n':=fun h'=>aX _ h' K3.o (by simp[bJ]) (by simp[aU]);exact⟨rfl,pu,ol,si,sj,(HI.o.finx ⟨HI.o.sx HA.o 0,HI.o.sx HA.o 1,HI.o.sx HA.o 2,HI.o.sx HA.o 3,HI.o.sx HA.o 4,HI.o.sx HA.o 5,HI.o.sx HA.o 6,HI.o.sx HA.o 7,HI.o.sx HA.o 8,x9,x10,trivial⟩ rfl),(aj (l:=[.bool (ah z),.slice si (aa z) sj]) (i:=0) (by omega) mf.o),(bK (l:=[.bool (ah z),.slice si (aa z) sj]) (i:=0) K3.o),(s0 RZ.o)⟩
 rintro a' W1 ⟨pu,ol,si,sj,rfl,z0,z1,z2⟩;obtain ⟨p8,K3,RZ⟩:=ak z0 z1 z2;clear z0 z1 z2;simp only[putL,List.setIfInBounds_toArray,List.set_cons_zero,List.set_cons_succ];go_wp2;obtain ⟨rM,rV⟩:=aC K3.o rfl rfl;exact bodyPost_ret (v:=.agg #[.bool (ah z),.slice si (aa z) sj]) (by simp[results,Tryz.results92,go_sem,rM,rV]) rfl ⟨_,_,rfl,RZ.o,p8.o⟩
