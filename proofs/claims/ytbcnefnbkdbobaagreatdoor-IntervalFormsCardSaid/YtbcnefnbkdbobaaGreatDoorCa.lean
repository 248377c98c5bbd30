/- texts -/
import Derived.Test.YtbcnefnbkdbobaaGreatDoorMz32q
open Go.Proofs.Tryz
set_option maxRecDepth 100000
set_option maxHeartbeats 20000000
open Go.Lib (hid)
namespace Go.Proofs.YtbcnefnbkdbobaaGreatDoor
open Go.RowKit Go.Gb
set_option linter.unusedVariables false
abbrev RIb (W:World) (x y:Rat) (b:Bool):Ending→World→Prop:=fun e w'=>∃ qa qb:QS,e=.returned (.tuple #[.agg #[.bool qa.b,.slice qa.a qa.n qa.c,.slice qa.e qa.m qa.d,.bool qb.b,.slice qb.a qb.n qb.c,.slice qb.e qb.m qb.d],.bool b])∧FQ w' qa x∧FQ w' qb y∧Below W.heap.size W w'
abbrev KIb (f:Nat) (v0:Value) (x y:Rat) (b:Bool):Prop:=∀ W:World,Calls Tryz.prog f #[v0] W (RIb W x y b)
abbrev KI2 (f:Nat) (x y:Rat) (v:Value):Prop:=∀ (qa qb:QS) (W:World),FQ W qa x→FQ W qb y→Calls Tryz.prog f #[.agg #[.bool qa.b,.slice qa.a qa.n qa.c,.slice qa.e qa.m qa.d,.bool qb.b,.slice qb.a qb.n qb.c,.slice qb.e qb.m qb.d]] W (RP W v)
def Rel.blk (g:Nat) (cs:Array Value) (T:TypeId):Rel:=⟨fun _ W=>SBk W g cs T,fun _ _ _ h hb=>h.below hb⟩
theorem RInv.stored {ops:Array Oper}{m:Nat}{sl:Nat→Nat}{a0:Act}{vs:List Value}{r:Rel}{P:World→Prop}{wm:Array Bool}{a:Act}{w w':World}(h:RInv ops m sl (RelR (List.map Rel.val vs++[r])) a0 P wm a w)(hm:m=vs.length+1)(hi:vs.length∈Region.ready .any ops wm)(hk:∃ v,a.tmps[sl vs.length]? = some v∧r.R v w')(hP:P w'):RInv ops m sl (RelR (List.map Rel.val vs++[r])) a0 P (wm.setIfInBounds vs.length true) a w':=by
 refine⟨h.closed.set hi,by simpa using h.size,fun i hi' hl=>?_,h.rest,h.tsize,h.defers,hP⟩;have e2:(List.map Rel.val vs++[r]).getD vs.length (Rel.val undef)=r:=by simp[List.getD]
 rcases gX hl with rfl|hl
 · obtain⟨v,h1,h2⟩:=hk
   refine⟨v,h1,?_⟩;unfold RelR
   rw[e2];exact h2
 · obtain⟨v,h1,h2⟩:=h.slots i hi' hl
   by_cases hiv:i<vs.length
   · refine⟨v,h1,?_⟩
     have e:(List.map Rel.val vs++[r]).getD i (Rel.val undef)=Rel.val vs[i]:=by simp[List.getD,List.getElem?_append_left,hiv]
     unfold RelR at h2 ⊢
     rw[e]at h2 ⊢;exact h2
   · have hie:i=vs.length:=by omega
     subst hie;have hu:=lM hi;rw[Array.getD_eq_getD_getElem?]at hl hu
     cases hq:wm[vs.length]? with
     | none=>rw[hq]at hu;cases hu
     | some b=>rw[hq]at hl hu;simp at hl hu;rw[hl]at hu;cases hu
abbrev Lii (qa qb:QS):List Value:=[.bool qa.b,.slice qa.a qa.n qa.c,.slice qa.e qa.m qa.d,.bool qb.b,.slice qb.a qb.n qb.c,.slice qb.e qb.m qb.d]
abbrev Qii (qa qb:QS):Value:=.agg #[.bool qa.b,.slice qa.a qa.n qa.c,.slice qa.e qa.m qa.d,.bool qb.b,.slice qb.a qb.n qb.c,.slice qb.e qb.m qb.d]
theorem zH {w:World}{g:Nat}{T:TypeId}{x0 x1 x2 x3 x4 x5:Value}(h:SBk w g #[x0,x1,x2,x3,x4,x5] T):w.cell? ⟨g,0,none⟩=some x0∧w.cell? ⟨g,1,none⟩=some x1∧w.cell? ⟨g,2,none⟩=some x2∧w.cell? ⟨g,3,none⟩=some x3∧w.cell? ⟨g,4,none⟩=some x4∧w.cell? ⟨g,5,none⟩=some x5:=⟨h.cell (i:=0) rfl,h.cell (i:=1) rfl,h.cell (i:=2) rfl,h.cell (i:=3) rfl,h.cell (i:=4) rfl,h.cell (i:=5) rfl⟩
theorem vG (l u:ByteArray)(xa xb:Rat)(bd:Bool)  (w:World)  (h1:KSb 35 (.string l) xa false)(h2:KSb 35 (.string u) xb bd)  :
 Calls Tryz.prog 31 #[.agg #[.string l,.string u]] w (RIb w xa xb false):=by
 have C1:=hid h1;have C2:=hid h2;clear h1 h2;go_enter func31,ntmps31
 go_upto_region 1 with fail
 refine aH w [(#[.string l,.string u],24),(#[.bool false,.slice none 0 0,.slice none 0 0,.bool false,.slice none 0 0,.slice none 0 0],55)] rfl ?_;rintro W0 ⟨k1,k2,hb⟩;have sw:=hid (show Below w.heap.size w W0 from hb);have K1:=hid k1;have K2:=hid k2;clear k1 k2 hb;have rM:=K1.o.cell (i:=0) rfl;go_wp2_with fail
 with_reducible refine(C1.o _).mono ?_
 rintro e W1 ⟨w9,rfl,r9,hb⟩;clear rM;obtain ⟨K1,K2⟩:=bG hb K1 K2;have ww:=hbt sw hb;have RA:=hid r9;clear hb r9;go_upto_region 2 with fail
 refine aH W1 [(#[.bool w9.b,.slice w9.a w9.n w9.c,.slice w9.e w9.m w9.d],53)] rfl ?_;have L1:=K1.o.lt;have L2:=K2.o.lt;have L3:=ww.o.size;rintro W2 ⟨k3,hb⟩;have hb:Below W1.heap.size W1 W2:=hb;obtain ⟨K1,K2,RA⟩:=df hb K1 K2 RA;have oM:=hbt ww hb;have K3:=hid k3;clear k3 hb;have rV:=K1.o.cell (i:=1) rfl;go_wp2_with fail
 with_reducible refine(C2.o _).mono ?_
 rintro e W3 ⟨u6,rfl,oV,hb⟩;clear rV;obtain ⟨K1,K2,K3,RA⟩:=cB hb K1 K2 K3 RA;have pq:=hbt oM hb;have RB:=hid oV;clear hb oV;go_upto_region 3 with fail
 refine aH W3 [(#[.bool u6.b,.slice u6.a u6.n u6.c,.slice u6.e u6.m u6.d],53)] rfl ?_;have L4:=K1.o.lt;have L5:=K2.o.lt;have L6:=K3.o.lt;have L7:=pq.o.size;rintro W4 ⟨k4,hb⟩;have hb:Below W3.heap.size W3 W4:=hb;obtain ⟨K2,K3,RA,RB⟩:=cB hb K2 K3 RA RB;have mi:=hbt pq hb;have K4:=hid k4;clear k4 hb;go_wp2_with fail
 refine aX (fun a0 a' V=>a'=⟨putL [(20,w9.v),(21,u6.v),(22,Qii w9 u6),(23,.bool false),(24,.bool false),(25,undef),(26,.bool false),(27,.bool false),(28,undef),(29,undef),(30,undef),(31,undef),(32,.bool false),(0,(.agg #[.string l,.string u])),(3,.bool false)] a0.tmps,a0.defers⟩∧Below w.heap.size w V∧SBk V (w.heap.size+1) (Lii w9 u6).toArray 55∧FQ V w9 xa∧FQ V u6 xb) ?_ ?_
 · have hd:=(Below.refl W4.heap.size W4).drew
   refine bK (by kernel_rfl) 14 1 (fun i=>[20,21,22,23,24,25,26,27,28,29,30,31,32,0].getD i 0) (RelR (List.map Rel.val [w9.v,u6.v,Qii w9 u6,.bool false,.bool false,undef,.bool false,.bool false,undef,undef,undef,undef,.bool false]++[Rel.blk (w.heap.size+1) (Lii w9 u6).toArray 55])) (fun W=>Below w.heap.size w W∧(∃ cs:Array Value,cs.size=6∧dG cs=true∧SBk W (w.heap.size+1) cs 55)∧SBk W W1.heap.size w9.l.toArray 53∧SBk W W3.heap.size u6.l.toArray 53∧FQ W w9 xa∧FQ W u6 xb) (fun _ a=>a.tmps[0]? = some (.agg #[.string l,.string u])) (by kernel_rfl) (by kernel_rfl) (by kernel_rfl) rfl ⟨mi.o.trans (hd.mono mi.o.size),⟨_,rfl,by simp[dG],K2.o.below hd⟩,K3.o.below hd,K4.o.below hd,RA.o.below hd,RB.o.below hd⟩ ?_ ?_
   · intro wm a W i hI hD hrd him
     obtain ⟨HI,HD,Hr⟩:=av hI hD hrd;clear hI hrd hD hd;have y2:a.tmps[2]? = some (.pointer (some ⟨w.heap.size+1,0,none⟩)):=HI.o.rest 2 (by decide);have y4:a.tmps[4]? = some (.pointer (some ⟨W1.heap.size,0,none⟩)):=HI.o.rest 4 (by decide);have y5:a.tmps[5]? = some (.bool false):=HI.o.rest 5 (by decide);have y6:a.tmps[6]? = some (.pointer (some ⟨W3.heap.size,0,none⟩)):=HI.o.rest 6 (by decide);have y7:a.tmps[7]? = some (.bool bd):=HI.o.rest 7 (by decide);obtain⟨HW1,HW2,HW3,HW4,HF1,HF2⟩:=HI.o.world;obtain⟨d0,d1,d2⟩:=cells3 HW3;obtain⟨e0,e1,e2⟩:=cells3 HW4;obtain ⟨HW1,HW2,HW3,HW4,HF1,HF2⟩:=bX HW1 HW2 HW3 HW4 HF1 HF2;have X0:RV _ wm a 0 20 (w9.v):=HI.o.rh;have X1:RV _ wm a 1 21 (u6.v):=HI.o.rh;have X2:RV _ wm a 2 22 (Qii w9 u6):=HI.o.rh;have X3:RV _ wm a 3 23 (.bool false):=HI.o.rh;have X4:RV _ wm a 4 24 (.bool false):=HI.o.rh;have X5:RV _ wm a 5 25 (undef):=HI.o.rh;have X6:RV _ wm a 6 26 (.bool false):=HI.o.rh;have X7:RV _ wm a 7 27 (.bool false):=HI.o.rh;have X8:RV _ wm a 8 28 (undef):=HI.o.rh;have X9:RV _ wm a 9 29 (undef):=HI.o.rh;have X10:RV _ wm a 10 30 (undef):=HI.o.rh;have X11:RV _ wm a 11 31 (undef):=HI.o.rh;have X12:RV _ wm a 12 32 (.bool false):=HI.o.rh
     match i,him,Hr with
     | 0,_,Hi|1,_,Hi|2,_,Hi =>
       try have x0:=X0.g Hi.o (by decide +kernel)
       try dsimp only[QS.v,Qii]at x0
       try have x1:=X1.g Hi.o (by decide +kernel)
       try dsimp only[QS.v,Qii]at x1
       refine aQ rfl fun K' hK=>?_;go_simp;exact hK.o _ _ ⟨HI.o.pv Hi.o rfl,(iw (by decide)).trans HD.o⟩
     | 3,_,Hi|4,_,Hi|5,_,Hi|6,_,Hi|7,_,Hi =>
       try have x3:=X3.g Hi.o (by decide +kernel)
       try dsimp only[QS.v,Qii]at x3
       try have x4:=X4.g Hi.o (by decide +kernel)
       try dsimp only[QS.v,Qii]at x4
       try have x5:=X5.g Hi.o (by decide +kernel)
       try dsimp only[QS.v,Qii]at x5
       try have x6:=X6.g Hi.o (by decide +kernel)
       try dsimp only[QS.v,Qii]at x6
       refine aQ rfl fun K' hK=>?_;go_simp;exact hK.o _ _ ⟨HI.o.pv Hi.o rfl,(iw (by decide)).trans HD.o⟩
     | 8,_,Hi|9,_,Hi|10,_,Hi|11,_,Hi =>
       try have x7:=X7.g Hi.o (by decide +kernel)
       try dsimp only[QS.v,Qii]at x7
       refine aQ rfl fun K' hK=>?_;go_simp;exact hK.o _ _ ⟨HI.o.pv Hi.o rfl,(iw (by decide)).trans HD.o⟩
     | 12,_,Hi =>
       try have x7:=X7.g Hi.o (by decide +kernel)
       try dsimp only[QS.v,Qii]at x7
       try have x11:=X11.g Hi.o (by decide +kernel)
       try dsimp only[QS.v,Qii]at x11
       refine aQ rfl fun K' hK=>?_;go_simp;exact hK.o _ _ ⟨HI.o.pv Hi.o rfl,(iw (by decide)).trans HD.o⟩
     | 13,_,Hi =>
       have x2:a.tmps[22]? = some (.agg (Lii w9 u6).toArray):=X2.g Hi.o (by kernel_rfl);obtain⟨cs0,hc0,hn0,hk0⟩:=HW2.o;refine aQ rfl fun K' hK=>?_;change Oper.wp _ _ _ _ _ _;refine wp_store_row _ _ _ rfl (w.heap.size+1) (Lii w9 u6).toArray (jv y2) (jv x2) _ _ hk0 (mO 6 rfl (by kernel_rfl)) (by rw[hc0];rfl) (by simp[Value.oneCell',Lii]) ?_;have hs:=(iX (vs:=Lii w9 u6) hk0 (by rw[hc0];rfl)).symm;have hp:(Lii w9 u6).all bY=true:=by simp[bY,Lii]
       refine hK.o _ _ ⟨RInv.stored HI.o rfl Hi.o ⟨_,HD.o,SBk.row hk0 _⟩ ⟨nk HW1.o _ (by omega),⟨_,rfl,by simp[dG,Lii],SBk.row hk0 _⟩,?_,?_,?_,?_⟩,HD.o⟩
       · exact(setRow_other _ _ _ _ (by have:=L2;have:=ww.o.size;omega)).trans HW3.o
       · exact(setRow_other _ _ _ _ (by have:=L5;have:=pq.o.size;omega)).trans HW4.o
       · rw[hs];exact jm _ 0 HF1.o hk0 hn0 hp
       · rw[hs];exact jm _ 0 HF2.o hk0 hn0 hp
     | n+14,h,_=>exact absurd h (by omega)
   · intro wm a W hI hD ol
     obtain ⟨HI,HA⟩:=aI hI ol;obtain⟨_,_,hblk⟩:=hI.slots 13 (by decide) (ol 13 (by decide));have hblk:=hid (show SBk W (w.heap.size+1) (Lii w9 u6).toArray 55 from hblk);obtain⟨hw1,_,_,_,hf1,hf2⟩:=hI.world;obtain ⟨HW1,HF1,HF2⟩:=av hw1 hf1 hf2;clear hI ol hw1 hf1 hf2;have x12:a.tmps[32]? = some (.bool false):=HI.o.sx HA.o 12;have EA:=hid (HI.o.finx (L:=[(20,w9.v),(21,u6.v),(22,Qii w9 u6),(23,.bool false),(24,.bool false),(25,undef),(26,.bool false),(27,.bool false),(28,undef),(29,undef),(30,undef),(31,undef),(32,.bool false),(0,(.agg #[.string l,.string u]))]) ⟨HI.o.sx HA.o 0,HI.o.sx HA.o 1,HI.o.sx HA.o 2,HI.o.sx HA.o 3,HI.o.sx HA.o 4,HI.o.sx HA.o 5,HI.o.sx HA.o 6,HI.o.sx HA.o 7,HI.o.sx HA.o 8,HI.o.sx HA.o 9,HI.o.sx HA.o 10,HI.o.sx HA.o 11,HI.o.sx HA.o 12,hD,trivial⟩ rfl);refine fu (t:=0) ?_;refine aQ rfl fun K' hK=>?_;go_simp;refine hK.o _ _ ?_;clear hK;refine dA ?_;exact⟨rfl,pz EA.o rfl,HW1.o,hblk.o,HF1.o,HF2.o⟩
 rintro a' W5 ⟨rfl,z0,z1,z2,z3⟩;obtain ⟨l5,K2,RA,RB⟩:=aP z0 z1 z2 z3;clear z0 z1 z2 z3;simp only[putL,List.setIfInBounds_toArray,List.set_cons_zero,List.set_cons_succ];go_wp2;obtain⟨d0,d1,d2,d3,d4,d5⟩:=zH K2.o;exact bodyPost_ret (v:=.tuple #[.agg (Lii w9 u6).toArray,.bool false]) (by simp[Lii,results,results31,go_sem,d0,d1,d2,d3,d4,d5]) rfl ⟨_,_,rfl,RA.o,RB.o,l5.o⟩
theorem z0G (l u:ByteArray)(xa xb:Rat)  (w:World)  (h1:KSb 35 (.string l) xa true)(h2:KSb 35 (.string u) xb false)  :
 Calls Tryz.prog 31 #[.agg #[.string l,.string u]] w (RIb w xa xb false):=by
 have C1:=hid h1;have C2:=hid h2;clear h1 h2;go_enter func31,ntmps31
 go_upto_region 1 with fail
 refine aH w [(#[.string l,.string u],24),(#[.bool false,.slice none 0 0,.slice none 0 0,.bool false,.slice none 0 0,.slice none 0 0],55)] rfl ?_;rintro W0 ⟨k1,k2,hb⟩;have sw:=hid (show Below w.heap.size w W0 from hb);have K1:=hid k1;have K2:=hid k2;clear k1 k2 hb;have rM:=K1.o.cell (i:=0) rfl;go_wp2_with fail
 with_reducible refine(C1.o _).mono ?_
 rintro e W1 ⟨w9,rfl,r9,hb⟩;clear rM;obtain ⟨K1,K2⟩:=bG hb K1 K2;have ww:=hbt sw hb;have RA:=hid r9;clear hb r9;go_upto_region 2 with fail
 refine aH W1 [(#[.bool w9.b,.slice w9.a w9.n w9.c,.slice w9.e w9.m w9.d],53)] rfl ?_;have L1:=K1.o.lt;have L2:=K2.o.lt;have L3:=ww.o.size;rintro W2 ⟨k3,hb⟩;have hb:Below W1.heap.size W1 W2:=hb;obtain ⟨K1,K2,RA⟩:=df hb K1 K2 RA;have oM:=hbt ww hb;have K3:=hid k3;clear k3 hb;have rV:=K1.o.cell (i:=1) rfl;go_wp2_with fail
 with_reducible refine(C2.o _).mono ?_
 rintro e W3 ⟨u6,rfl,oV,hb⟩;clear rV;obtain ⟨K1,K2,K3,RA⟩:=cB hb K1 K2 K3 RA;have pq:=hbt oM hb;have RB:=hid oV;clear hb oV;go_upto_region 3 with fail
 refine aH W3 [(#[.bool u6.b,.slice u6.a u6.n u6.c,.slice u6.e u6.m u6.d],53)] rfl ?_;have L4:=K1.o.lt;have L5:=K2.o.lt;have L6:=K3.o.lt;have L7:=pq.o.size;rintro W4 ⟨k4,hb⟩;have hb:Below W3.heap.size W3 W4:=hb;obtain ⟨K2,K3,RA,RB⟩:=cB hb K2 K3 RA RB;have mi:=hbt pq hb;have K4:=hid k4;clear k4 hb;go_wp2_with fail
 refine aX (fun a0 a' V=>a'=⟨putL [(20,w9.v),(21,u6.v),(22,Qii w9 u6),(23,.bool true),(24,.bool true),(25,.bool false),(26,.bool false),(27,.bool false),(28,undef),(29,undef),(30,undef),(31,undef),(32,.bool false),(0,(.agg #[.string l,.string u])),(3,.bool false)] a0.tmps,a0.defers⟩∧Below w.heap.size w V∧SBk V (w.heap.size+1) (Lii w9 u6).toArray 55∧FQ V w9 xa∧FQ V u6 xb) ?_ ?_
 · have hd:=(Below.refl W4.heap.size W4).drew
   refine bK (by kernel_rfl) 14 1 (fun i=>[20,21,22,23,24,25,26,27,28,29,30,31,32,0].getD i 0) (RelR (List.map Rel.val [w9.v,u6.v,Qii w9 u6,.bool true,.bool true,.bool false,.bool false,.bool false,undef,undef,undef,undef,.bool false]++[Rel.blk (w.heap.size+1) (Lii w9 u6).toArray 55])) (fun W=>Below w.heap.size w W∧(∃ cs:Array Value,cs.size=6∧dG cs=true∧SBk W (w.heap.size+1) cs 55)∧SBk W W1.heap.size w9.l.toArray 53∧SBk W W3.heap.size u6.l.toArray 53∧FQ W w9 xa∧FQ W u6 xb) (fun _ a=>a.tmps[0]? = some (.agg #[.string l,.string u])) (by kernel_rfl) (by kernel_rfl) (by kernel_rfl) rfl ⟨mi.o.trans (hd.mono mi.o.size),⟨_,rfl,by simp[dG],K2.o.below hd⟩,K3.o.below hd,K4.o.below hd,RA.o.below hd,RB.o.below hd⟩ ?_ ?_
   · intro wm a W i hI hD hrd him
     obtain ⟨HI,HD,Hr⟩:=av hI hD hrd;clear hI hrd hD hd;have y2:a.tmps[2]? = some (.pointer (some ⟨w.heap.size+1,0,none⟩)):=HI.o.rest 2 (by decide);have y4:a.tmps[4]? = some (.pointer (some ⟨W1.heap.size,0,none⟩)):=HI.o.rest 4 (by decide);have y5:a.tmps[5]? = some (.bool true):=HI.o.rest 5 (by decide);have y6:a.tmps[6]? = some (.pointer (some ⟨W3.heap.size,0,none⟩)):=HI.o.rest 6 (by decide);have y7:a.tmps[7]? = some (.bool false):=HI.o.rest 7 (by decide);obtain⟨HW1,HW2,HW3,HW4,HF1,HF2⟩:=HI.o.world;obtain⟨d0,d1,d2⟩:=cells3 HW3;obtain⟨e0,e1,e2⟩:=cells3 HW4;obtain ⟨HW1,HW2,HW3,HW4,HF1,HF2⟩:=bX HW1 HW2 HW3 HW4 HF1 HF2;have X0:RV _ wm a 0 20 (w9.v):=HI.o.rh;have X1:RV _ wm a 1 21 (u6.v):=HI.o.rh;have X2:RV _ wm a 2 22 (Qii w9 u6):=HI.o.rh;have X3:RV _ wm a 3 23 (.bool true):=HI.o.rh;have X4:RV _ wm a 4 24 (.bool true):=HI.o.rh;have X5:RV _ wm a 5 25 (.bool false):=HI.o.rh;have X6:RV _ wm a 6 26 (.bool false):=HI.o.rh;have X7:RV _ wm a 7 27 (.bool false):=HI.o.rh;have X8:RV _ wm a 8 28 (undef):=HI.o.rh;have X9:RV _ wm a 9 29 (undef):=HI.o.rh;have X10:RV _ wm a 10 30 (undef):=HI.o.rh;have X11:RV _ wm a 11 31 (undef):=HI.o.rh;have X12:RV _ wm a 12 32 (.bool false):=HI.o.rh
     match i,him,Hr with
     | 0,_,Hi|1,_,Hi|2,_,Hi =>
       try have x0:=X0.g Hi.o (by decide +kernel)
       try dsimp only[QS.v,Qii]at x0
       try have x1:=X1.g Hi.o (by decide +kernel)
       try dsimp only[QS.v,Qii]at x1
       refine aQ rfl fun K' hK=>?_;go_simp;exact hK.o _ _ ⟨HI.o.pv Hi.o rfl,(iw (by decide)).trans HD.o⟩
     | 3,_,Hi|4,_,Hi|5,_,Hi|6,_,Hi|7,_,Hi =>
       try have x3:=X3.g Hi.o (by decide +kernel)
       try dsimp only[QS.v,Qii]at x3
       try have x4:=X4.g Hi.o (by decide +kernel)
       try dsimp only[QS.v,Qii]at x4
       try have x5:=X5.g Hi.o (by decide +kernel)
       try dsimp only[QS.v,Qii]at x5
       try have x6:=X6.g Hi.o (by decide +kernel)
       try dsimp only[QS.v,Qii]at x6
       refine aQ rfl fun K' hK=>?_;go_simp;exact hK.o _ _ ⟨HI.o.pv Hi.o rfl,(iw (by decide)).trans HD.o⟩
     | 8,_,Hi|9,_,Hi|10,_,Hi|11,_,Hi =>
       try have x7:=X7.g Hi.o (by decide +kernel)
       try dsimp only[QS.v,Qii]at x7
       refine aQ rfl fun K' hK=>?_;go_simp;exact hK.o _ _ ⟨HI.o.pv Hi.o rfl,(iw (by decide)).trans HD.o⟩
     | 12,_,Hi =>
       try have x7:=X7.g Hi.o (by decide +kernel)
       try dsimp only[QS.v,Qii]at x7
       try have x11:=X11.g Hi.o (by decide +kernel)
       try dsimp only[QS.v,Qii]at x11
       refine aQ rfl fun K' hK=>?_;go_simp;exact hK.o _ _ ⟨HI.o.pv Hi.o rfl,(iw (by decide)).trans HD.o⟩
     | 13,_,Hi =>
       have x2:a.tmps[22]? = some (.agg (Lii w9 u6).toArray):=X2.g Hi.o (by kernel_rfl);obtain⟨cs0,hc0,hn0,hk0⟩:=HW2.o;refine aQ rfl fun K' hK=>?_;change Oper.wp _ _ _ _ _ _;refine wp_store_row _ _ _ rfl (w.heap.size+1) (Lii w9 u6).toArray (jv y2) (jv x2) _ _ hk0 (mO 6 rfl (by kernel_rfl)) (by rw[hc0];rfl) (by simp[Value.oneCell',Lii]) ?_;have hs:=(iX (vs:=Lii w9 u6) hk0 (by rw[hc0];rfl)).symm;have hp:(Lii w9 u6).all bY=true:=by simp[bY,Lii]
       refine hK.o _ _ ⟨RInv.stored HI.o rfl Hi.o ⟨_,HD.o,SBk.row hk0 _⟩ ⟨nk HW1.o _ (by omega),⟨_,rfl,by simp[dG,Lii],SBk.row hk0 _⟩,?_,?_,?_,?_⟩,HD.o⟩
       · exact(setRow_other _ _ _ _ (by have:=L2;have:=ww.o.size;omega)).trans HW3.o
       · exact(setRow_other _ _ _ _ (by have:=L5;have:=pq.o.size;omega)).trans HW4.o
       · rw[hs];exact jm _ 0 HF1.o hk0 hn0 hp
       · rw[hs];exact jm _ 0 HF2.o hk0 hn0 hp
     | n+14,h,_=>exact absurd h (by omega)
   · intro wm a W hI hD ol
     obtain ⟨HI,HA⟩:=aI hI ol;obtain⟨_,_,hblk⟩:=hI.slots 13 (by decide) (ol 13 (by decide));have hblk:=hid (show SBk W (w.heap.size+1) (Lii w9 u6).toArray 55 from hblk);obtain⟨hw1,_,_,_,hf1,hf2⟩:=hI.world;obtain ⟨HW1,HF1,HF2⟩:=av hw1 hf1 hf2;clear hI ol hw1 hf1 hf2;have x12:a.tmps[32]? = some (.bool false):=HI.o.sx HA.o 12;have EA:=hid (HI.o.finx (L:=[(20,w9.v),(21,u6.v),(22,Qii w9 u6),(23,.bool true),(24,.bool true),(25,.bool false),(26,.bool false),(27,.bool false),(28,undef),(29,undef),(30,undef),(31,undef),(32,.bool false),(0,(.agg #[.string l,.string u]))]) ⟨HI.o.sx HA.o 0,HI.o.sx HA.o 1,HI.o.sx HA.o 2,HI.o.sx HA.o 3,HI.o.sx HA.o 4,HI.o.sx HA.o 5,HI.o.sx HA.o 6,HI.o.sx HA.o 7,HI.o.sx HA.o 8,HI.o.sx HA.o 9,HI.o.sx HA.o 10,HI.o.sx HA.o 11,HI.o.sx HA.o 12,hD,trivial⟩ rfl);refine fu (t:=0) ?_;refine aQ rfl fun K' hK=>?_;go_simp;refine hK.o _ _ ?_;clear hK;refine dA ?_;exact⟨rfl,pz EA.o rfl,HW1.o,hblk.o,HF1.o,HF2.o⟩
 rintro a' W5 ⟨rfl,z0,z1,z2,z3⟩;obtain ⟨l5,K2,RA,RB⟩:=aP z0 z1 z2 z3;clear z0 z1 z2 z3;simp only[putL,List.setIfInBounds_toArray,List.set_cons_zero,List.set_cons_succ];go_wp2;obtain⟨d0,d1,d2,d3,d4,d5⟩:=zH K2.o;exact bodyPost_ret (v:=.tuple #[.agg (Lii w9 u6).toArray,.bool false]) (by simp[Lii,results,results31,go_sem,d0,d1,d2,d3,d4,d5]) rfl ⟨_,_,rfl,RA.o,RB.o,l5.o⟩
theorem yZ (l u:ByteArray)(xa xb:Rat)(k:Int)(b:Bool)  (w:World)(hk:decide (k≤0)=b)(h1:KSb 35 (.string l) xa true)(h2:KSb 35 (.string u) xb true)(h3:KP2 36 xa xb (.int .i64 k))  :
 Calls Tryz.prog 31 #[.agg #[.string l,.string u]] w (RIb w xa xb b):=by
 obtain ⟨C1,C2,C3⟩:=av h1 h2 h3;have hkk:=hk;clear hk h1 h2 h3;go_enter func31,ntmps31
 go_upto_region 1 with fail
 refine aH w [(#[.string l,.string u],24),(#[.bool false,.slice none 0 0,.slice none 0 0,.bool false,.slice none 0 0,.slice none 0 0],55)] rfl ?_;rintro W0 ⟨k1,k2,hb⟩;have sw:=hid (show Below w.heap.size w W0 from hb);have K1:=hid k1;have K2:=hid k2;clear k1 k2 hb;have rM:=K1.o.cell (i:=0) rfl;go_wp2_with fail
 with_reducible refine(C1.o _).mono ?_
 rintro e W1 ⟨w9,rfl,r9,hb⟩;clear rM;obtain ⟨K1,K2⟩:=bG hb K1 K2;have ww:=hbt sw hb;have RA:=hid r9;clear hb r9;go_upto_region 2 with fail
 refine aH W1 [(#[.bool w9.b,.slice w9.a w9.n w9.c,.slice w9.e w9.m w9.d],53)] rfl ?_;have L1:=K1.o.lt;have L2:=K2.o.lt;have L3:=ww.o.size;rintro W2 ⟨k3,hb⟩;have hb:Below W1.heap.size W1 W2:=hb;obtain ⟨K1,K2,RA⟩:=df hb K1 K2 RA;have oM:=hbt ww hb;have K3:=hid k3;clear k3 hb;have rV:=K1.o.cell (i:=1) rfl;go_wp2_with fail
 with_reducible refine(C2.o _).mono ?_
 rintro e W3 ⟨u6,rfl,oV,hb⟩;clear rV;obtain ⟨K1,K2,K3,RA⟩:=cB hb K1 K2 K3 RA;have pq:=hbt oM hb;have RB:=hid oV;clear hb oV;go_upto_region 3 with fail
 refine aH W3 [(#[.bool u6.b,.slice u6.a u6.n u6.c,.slice u6.e u6.m u6.d],53)] rfl ?_;have L4:=K1.o.lt;have L5:=K2.o.lt;have L6:=K3.o.lt;have L7:=pq.o.size;rintro W4 ⟨k4,hb⟩;have hb:Below W3.heap.size W3 W4:=hb;obtain ⟨K2,K3,RA,RB⟩:=cB hb K2 K3 RA RB;have mi:=hbt pq hb;have K4:=hid k4;clear k4 hb;go_wp2_with fail
 refine aX (fun a0 a' V=>a'=⟨putL [(20,w9.v),(21,u6.v),(22,Qii w9 u6),(23,.bool true),(24,.bool true),(25,.bool true),(26,.bool true),(27,.bool true),(28,w9.v),(29,u6.v),(30,.int .i64 k),(31,.bool b),(32,.bool b),(0,(.agg #[.string l,.string u])),(3,.bool b)] a0.tmps,a0.defers⟩∧Below w.heap.size w V∧SBk V (w.heap.size+1) (Lii w9 u6).toArray 55∧FQ V w9 xa∧FQ V u6 xb) ?_ ?_
 · have hd:=(Below.refl W4.heap.size W4).drew
   refine bK (by kernel_rfl) 14 1 (fun i=>[20,21,22,23,24,25,26,27,28,29,30,31,32,0].getD i 0) (RelR (List.map Rel.val [w9.v,u6.v,Qii w9 u6,.bool true,.bool true,.bool true,.bool true,.bool true,w9.v,u6.v,.int .i64 k,.bool b,.bool b]++[Rel.blk (w.heap.size+1) (Lii w9 u6).toArray 55])) (fun W=>Below w.heap.size w W∧(∃ cs:Array Value,cs.size=6∧dG cs=true∧SBk W (w.heap.size+1) cs 55)∧SBk W W1.heap.size w9.l.toArray 53∧SBk W W3.heap.size u6.l.toArray 53∧FQ W w9 xa∧FQ W u6 xb) (fun _ a=>a.tmps[0]? = some (.agg #[.string l,.string u])) (by kernel_rfl) (by kernel_rfl) (by kernel_rfl) rfl ⟨mi.o.trans (hd.mono mi.o.size),⟨_,rfl,by simp[dG],K2.o.below hd⟩,K3.o.below hd,K4.o.below hd,RA.o.below hd,RB.o.below hd⟩ ?_ ?_
   · intro wm a W i hI hD hrd him
     obtain ⟨HI,HD,Hr⟩:=av hI hD hrd;clear hI hrd hD hd;have y2:a.tmps[2]? = some (.pointer (some ⟨w.heap.size+1,0,none⟩)):=HI.o.rest 2 (by decide);have y4:a.tmps[4]? = some (.pointer (some ⟨W1.heap.size,0,none⟩)):=HI.o.rest 4 (by decide);have y5:a.tmps[5]? = some (.bool true):=HI.o.rest 5 (by decide);have y6:a.tmps[6]? = some (.pointer (some ⟨W3.heap.size,0,none⟩)):=HI.o.rest 6 (by decide);have y7:a.tmps[7]? = some (.bool true):=HI.o.rest 7 (by decide);obtain⟨HW1,HW2,HW3,HW4,HF1,HF2⟩:=HI.o.world;obtain⟨d0,d1,d2⟩:=cells3 HW3;obtain⟨e0,e1,e2⟩:=cells3 HW4;obtain ⟨HW1,HW2,HW3,HW4,HF1,HF2⟩:=bX HW1 HW2 HW3 HW4 HF1 HF2;have X0:RV _ wm a 0 20 (w9.v):=HI.o.rh;have X1:RV _ wm a 1 21 (u6.v):=HI.o.rh;have X2:RV _ wm a 2 22 (Qii w9 u6):=HI.o.rh;have X3:RV _ wm a 3 23 (.bool true):=HI.o.rh;have X4:RV _ wm a 4 24 (.bool true):=HI.o.rh;have X5:RV _ wm a 5 25 (.bool true):=HI.o.rh;have X6:RV _ wm a 6 26 (.bool true):=HI.o.rh;have X7:RV _ wm a 7 27 (.bool true):=HI.o.rh;have X8:RV _ wm a 8 28 (w9.v):=HI.o.rh;have X9:RV _ wm a 9 29 (u6.v):=HI.o.rh;have X10:RV _ wm a 10 30 (.int .i64 k):=HI.o.rh;have X11:RV _ wm a 11 31 (.bool b):=HI.o.rh;have X12:RV _ wm a 12 32 (.bool b):=HI.o.rh
     match i,him,Hr with
     | 0,_,Hi|1,_,Hi|2,_,Hi =>
       try have x0:=X0.g Hi.o (by decide +kernel)
       try dsimp only[QS.v,Qii]at x0
       try have x1:=X1.g Hi.o (by decide +kernel)
       try dsimp only[QS.v,Qii]at x1
       refine aQ rfl fun K' hK=>?_;go_simp;exact hK.o _ _ ⟨HI.o.pv Hi.o rfl,(iw (by decide)).trans HD.o⟩
     | 3,_,Hi|4,_,Hi|5,_,Hi|6,_,Hi|7,_,Hi =>
       try have x3:=X3.g Hi.o (by decide +kernel)
       try dsimp only[QS.v,Qii]at x3
       try have x4:=X4.g Hi.o (by decide +kernel)
       try dsimp only[QS.v,Qii]at x4
       try have x5:=X5.g Hi.o (by decide +kernel)
       try dsimp only[QS.v,Qii]at x5
       try have x6:=X6.g Hi.o (by decide +kernel)
       try dsimp only[QS.v,Qii]at x6
       refine aQ rfl fun K' hK=>?_;go_simp;exact hK.o _ _ ⟨HI.o.pv Hi.o rfl,(iw (by decide)).trans HD.o⟩
     | 8,_,Hi|9,_,Hi =>
       try have x7:=X7.g Hi.o (by decide +kernel)
       try dsimp only[QS.v,Qii]at x7
       refine aQ rfl fun K' hK=>?_;go_simp;exact hK.o _ _ ⟨HI.o.pv Hi.o rfl,(iw (by decide)).trans HD.o⟩
     | 10,_,Hi =>
       have x7:=X7.g Hi.o (by kernel_rfl);have x8:=X8.g Hi.o (by kernel_rfl);have x9:=X9.g Hi.o (by kernel_rfl);dsimp only[QS.v]at x8 x9;refine aQ rfl fun K' hK=>?_;go_simp;with_reducible refine(C3.o _ _ _ HF1.o HF2.o).mono ?_
       rintro e W' ⟨rfl,hb⟩;obtain⟨cs0,hc0,hn0,hk0⟩:=HW2.o;refine hK.o _ _ ⟨RInv.put HI.o Hi.o (by decide) rfl (by simp) (by decide) rfl (fun j u k=>RelR.mono hb j u k) ⟨HW1.o.trans (hb.mono HW1.o.size),⟨cs0,hc0,hn0,hk0.below hb⟩,HW3.o.below hb,HW4.o.below hb,HF1.o.below hb,HF2.o.below hb⟩,(iw (by decide)).trans HD.o⟩
     | 11,_,Hi|12,_,Hi =>
       try have x7:=X7.g Hi.o (by decide +kernel)
       try dsimp only[QS.v,Qii]at x7
       try have x10:=X10.g Hi.o (by decide +kernel)
       try dsimp only[QS.v,Qii]at x10
       try have x11:=X11.g Hi.o (by decide +kernel)
       try dsimp only[QS.v,Qii]at x11
       refine aQ rfl fun K' hK=>?_;go_simp;exact hK.o _ _ ⟨HI.o.pv Hi.o rfl,(iw (by decide)).trans HD.o⟩
     | 13,_,Hi =>
       have x2:a.tmps[22]? = some (.agg (Lii w9 u6).toArray):=X2.g Hi.o (by kernel_rfl);obtain⟨cs0,hc0,hn0,hk0⟩:=HW2.o;refine aQ rfl fun K' hK=>?_;change Oper.wp _ _ _ _ _ _;refine wp_store_row _ _ _ rfl (w.heap.size+1) (Lii w9 u6).toArray (jv y2) (jv x2) _ _ hk0 (mO 6 rfl (by kernel_rfl)) (by rw[hc0];rfl) (by simp[Value.oneCell',Lii]) ?_;have hs:=(iX (vs:=Lii w9 u6) hk0 (by rw[hc0];rfl)).symm;have hp:(Lii w9 u6).all bY=true:=by simp[bY,Lii]
       refine hK.o _ _ ⟨RInv.stored HI.o rfl Hi.o ⟨_,HD.o,SBk.row hk0 _⟩ ⟨nk HW1.o _ (by omega),⟨_,rfl,by simp[dG,Lii],SBk.row hk0 _⟩,?_,?_,?_,?_⟩,HD.o⟩
       · exact(setRow_other _ _ _ _ (by have:=L2;have:=ww.o.size;omega)).trans HW3.o
       · exact(setRow_other _ _ _ _ (by have:=L5;have:=pq.o.size;omega)).trans HW4.o
       · rw[hs];exact jm _ 0 HF1.o hk0 hn0 hp
       · rw[hs];exact jm _ 0 HF2.o hk0 hn0 hp
     | n+14,h,_=>exact absurd h (by omega)
   · intro wm a W hI hD ol
     obtain ⟨HI,HA⟩:=aI hI ol;obtain⟨_,_,hblk⟩:=hI.slots 13 (by decide) (ol 13 (by decide));have hblk:=hid (show SBk W (w.heap.size+1) (Lii w9 u6).toArray 55 from hblk);obtain⟨hw1,_,_,_,hf1,hf2⟩:=hI.world;obtain ⟨HW1,HF1,HF2⟩:=av hw1 hf1 hf2;clear hI ol hw1 hf1 hf2;have x12:a.tmps[32]? = some (.bool b):=HI.o.sx HA.o 12;have EA:=hid (HI.o.finx (L:=[(20,w9.v),(21,u6.v),(22,Qii w9 u6),(23,.bool true),(24,.bool true),(25,.bool true),(26,.bool true),(27,.bool true),(28,w9.v),(29,u6.v),(30,.int .i64 k),(31,.bool b),(32,.bool b),(0,(.agg #[.string l,.string u]))]) ⟨HI.o.sx HA.o 0,HI.o.sx HA.o 1,HI.o.sx HA.o 2,HI.o.sx HA.o 3,HI.o.sx HA.o 4,HI.o.sx HA.o 5,HI.o.sx HA.o 6,HI.o.sx HA.o 7,HI.o.sx HA.o 8,HI.o.sx HA.o 9,HI.o.sx HA.o 10,HI.o.sx HA.o 11,HI.o.sx HA.o 12,hD,trivial⟩ rfl);refine fu (t:=0) ?_;refine aQ rfl fun K' hK=>?_;go_simp;refine hK.o _ _ ?_;clear hK;refine dA ?_;exact⟨rfl,pz EA.o rfl,HW1.o,hblk.o,HF1.o,HF2.o⟩
 rintro a' W5 ⟨rfl,z0,z1,z2,z3⟩;obtain ⟨l5,K2,RA,RB⟩:=aP z0 z1 z2 z3;clear z0 z1 z2 z3;simp only[putL,List.setIfInBounds_toArray,List.set_cons_zero,List.set_cons_succ];go_wp2;obtain⟨d0,d1,d2,d3,d4,d5⟩:=zH K2.o;exact bodyPost_ret (v:=.tuple #[.agg (Lii w9 u6).toArray,.bool b]) (by simp[Lii,results,results31,go_sem,d0,d1,d2,d3,d4,d5]) rfl ⟨_,_,rfl,RA.o,RB.o,l5.o⟩
theorem yU (l:ByteArray)(xa:Rat)(b:Bool)  (w:World)  (h1:KSb 35 (.string l) xa b)  :
 CR 29 #[.string l] w (.bool b):=by
 have C1:=hid h1;clear h1;go_enter func29,ntmps29
 have sw:=hid (Below.refl w.heap.size w);go_wp2_with fail
 with_reducible refine(C1.o _).mono ?_
 rintro e W1 ⟨w9,rfl,r9,hb⟩;have ww:=hbt sw hb;have RA:=hid r9;clear hb r9;go_upto_region 2 with fail
 refine aH W1 [(#[.bool w9.b,.slice w9.a w9.n w9.c,.slice w9.e w9.m w9.d],53)] rfl ?_;have L1:=ww.o.size;rintro W2 ⟨k1,hb⟩;have hb:Below W1.heap.size W1 W2:=hb;have oM:=hbt ww hb;have K1:=hid k1;clear k1 hb;go_wp2;exact bodyPost_ret (v:=.bool b) (by simp[results,results29,go_sem]) rfl ⟨rfl,oM.o⟩
theorem z2K (l u:ByteArray)(xa xb:Rat)(b:Bool)  (w:World)  (h1:KIb 31 (.agg #[.string l,.string u]) xa xb b)  :
 CR 12 #[.agg #[.string l,.string u]] w (.bool b):=by
 have C1:=hid h1;clear h1;go_enter func12,ntmps12
 go_upto_region 1 with fail
 refine aH w [(#[.string l,.string u],24)] rfl ?_;rintro W0 ⟨k1,hb⟩;have sw:=hid (show Below w.heap.size w W0 from hb);have K1:=hid k1;clear k1 hb;obtain ⟨rM,rV⟩:=aV K1.o rfl rfl;go_wp2_with fail
 with_reducible refine(C1.o _).mono ?_
 rintro e W1 ⟨wo,wu,rfl,r9,mf,hb⟩;clear rM rV;have K1:=hid (K1.o.below hb);have ww:=hbt sw hb;have RXa:=hid r9;have RXb:=hid mf;clear hb r9 mf;go_upto_region 2 with fail
 refine aH W1 [(#[.bool wo.b,.slice wo.a wo.n wo.c,.slice wo.e wo.m wo.d,.bool wu.b,.slice wu.a wu.n wu.c,.slice wu.e wu.m wu.d],55)] rfl ?_;have L1:=K1.o.lt;have L2:=ww.o.size;rintro W2 ⟨k2,hb⟩;have hb:Below W1.heap.size W1 W2:=hb;have oM:=hbt ww hb;have K2:=hid k2;clear k2 hb;go_wp2;exact bodyPost_ret (v:=.bool b) (by simp[results,results12,go_sem]) rfl ⟨rfl,oM.o⟩
theorem tL (l:ByteArray)  (w:World)  (h1:KPs 29 (.string l) (.bool true))  :
 CR 8 #[.string l] w (.tuple #[.agg #[.string l,.string l],.int .i64 0]):=by
 have C1:=hid h1;clear h1;go_enter func8,ntmps8
 go_upto_region 1 with fail
 refine aH w [(#[.string ⟨#[]⟩,.string ⟨#[]⟩],24)] rfl ?_;rintro W0 ⟨k1,hb⟩;have sw:=hid (show Below w.heap.size w W0 from hb);have K1:=hid k1;clear k1 hb;go_wp2_with fail
 with_reducible refine(C1.o _).mono ?_
 rintro e W1 ⟨rfl,hb⟩;have K1:=hid (K1.o.below hb);have ww:=hbt sw hb;clear hb;obtain ⟨rM,rV⟩:=aV K1.o rfl rfl;obtain ⟨cO,bg⟩:=eT K1.o;go_wp2;exact bodyPost_ret (v:=.tuple #[.agg #[.string l,.string l],.int .i64 0]) (by simp[results,results8,go_sem,rM,rV]) rfl ⟨rfl,(bC (l:=[.string l,.string l]) (i:=0) (by omega) ww.o)⟩
theorem rC (l:ByteArray)  (w:World)  (h1:KPs 29 (.string l) (.bool false))  :
 CR 8 #[.string l] w (.tuple #[.agg #[.string ⟨#[]⟩,.string ⟨#[]⟩],.int .i64 1]):=by
 have C1:=hid h1;clear h1;go_enter func8,ntmps8
 go_upto_region 1 with fail
 refine aH w [(#[.string ⟨#[]⟩,.string ⟨#[]⟩],24)] rfl ?_;rintro W0 ⟨k1,hb⟩;have sw:=hid (show Below w.heap.size w W0 from hb);have K1:=hid k1;clear k1 hb;go_wp2_with fail
 with_reducible refine(C1.o _).mono ?_
 rintro e W1 ⟨rfl,hb⟩;have K1:=hid (K1.o.below hb);have ww:=hbt sw hb;clear hb;obtain ⟨rM,rV⟩:=aV K1.o rfl rfl;obtain ⟨cO,bg⟩:=eT K1.o;go_wp2;exact bodyPost_ret (v:=.tuple #[.agg #[.string ⟨#[]⟩,.string ⟨#[]⟩],.int .i64 1]) (by simp[results,results8,go_sem,rM,rV]) rfl ⟨rfl,(bC (l:=[.string ⟨#[]⟩,.string ⟨#[]⟩]) (i:=0) (by omega) ww.o)⟩
theorem z1X (l u z:ByteArray)(xa xb xz:Rat)(bd:Bool)  (w:World)  (h1:KIb 31 (.agg #[.string l,.string u]) xa xb false)(h2:KSb 35 (.string z) xz bd)  :
 CR 14 #[.agg #[.string l,.string u],.string z] w (.bool false):=by
 have C1:=hid h1;have C2:=hid h2;clear h1 h2;go_enter func14,ntmps14
 go_upto_region 1 with fail
 refine aH w [(#[.string l,.string u],24)] rfl ?_;rintro W0 ⟨k1,hb⟩;have sw:=hid (show Below w.heap.size w W0 from hb);have K1:=hid k1;clear k1 hb;obtain ⟨rM,rV⟩:=aV K1.o rfl rfl;go_wp2_with fail
 with_reducible refine(C1.o _).mono ?_
 rintro e W1 ⟨wo,wu,rfl,r9,mf,hb⟩;clear rM rV;have K1:=hid (K1.o.below hb);have ww:=hbt sw hb;have RXa:=hid r9;have RXb:=hid mf;clear hb r9 mf;go_upto_region 2 with fail
 refine aH W1 [(#[.bool wo.b,.slice wo.a wo.n wo.c,.slice wo.e wo.m wo.d,.bool wu.b,.slice wu.a wu.n wu.c,.slice wu.e wu.m wu.d],55)] rfl ?_;have L1:=K1.o.lt;have L2:=ww.o.size;rintro W2 ⟨k2,hb⟩;have hb:Below W1.heap.size W1 W2:=hb;have K1:=hid (K1.o.below hb);have oM:=hbt ww hb;have K2:=hid k2;clear k2 hb;go_wp2_with fail
 with_reducible refine(C2.o _).mono ?_
 rintro e W3 ⟨u6,rfl,oV,hb⟩;obtain ⟨K1,K2⟩:=bG hb K1 K2;have pq:=hbt oM hb;have RZ:=hid oV;clear hb oV;go_upto_region 3 with fail
 refine aH W3 [(#[.bool u6.b,.slice u6.a u6.n u6.c,.slice u6.e u6.m u6.d],53)] rfl ?_;have L3:=K1.o.lt;have L4:=K2.o.lt;have L5:=pq.o.size;rintro W4 ⟨k3,hb⟩;have hb:Below W3.heap.size W3 W4:=hb;have mi:=hbt pq hb;have K3:=hid k3;clear k3 hb;go_wp2;exact bodyPost_ret (v:=.bool false) (by simp[results,results14,go_sem]) rfl ⟨rfl,mi.o⟩
theorem z1W (l u z:ByteArray)(xa xb xz:Rat)  (w:World)  (h1:KIb 31 (.agg #[.string l,.string u]) xa xb true)(h2:KSb 35 (.string z) xz false)  :
 CR 14 #[.agg #[.string l,.string u],.string z] w (.bool false):=by
 have C1:=hid h1;have C2:=hid h2;clear h1 h2;go_enter func14,ntmps14
 go_upto_region 1 with fail
 refine aH w [(#[.string l,.string u],24)] rfl ?_;rintro W0 ⟨k1,hb⟩;have sw:=hid (show Below w.heap.size w W0 from hb);have K1:=hid k1;clear k1 hb;obtain ⟨rM,rV⟩:=aV K1.o rfl rfl;go_wp2_with fail
 with_reducible refine(C1.o _).mono ?_
 rintro e W1 ⟨wo,wu,rfl,r9,mf,hb⟩;clear rM rV;have K1:=hid (K1.o.below hb);have ww:=hbt sw hb;have RXa:=hid r9;have RXb:=hid mf;clear hb r9 mf;go_upto_region 2 with fail
 refine aH W1 [(#[.bool wo.b,.slice wo.a wo.n wo.c,.slice wo.e wo.m wo.d,.bool wu.b,.slice wu.a wu.n wu.c,.slice wu.e wu.m wu.d],55)] rfl ?_;have L1:=K1.o.lt;have L2:=ww.o.size;rintro W2 ⟨k2,hb⟩;have hb:Below W1.heap.size W1 W2:=hb;have K1:=hid (K1.o.below hb);have oM:=hbt ww hb;have K2:=hid k2;clear k2 hb;go_wp2_with fail
 with_reducible refine(C2.o _).mono ?_
 rintro e W3 ⟨u6,rfl,oV,hb⟩;obtain ⟨K1,K2⟩:=bG hb K1 K2;have pq:=hbt oM hb;have RZ:=hid oV;clear hb oV;go_upto_region 3 with fail
 refine aH W3 [(#[.bool u6.b,.slice u6.a u6.n u6.c,.slice u6.e u6.m u6.d],53)] rfl ?_;have L3:=K1.o.lt;have L4:=K2.o.lt;have L5:=pq.o.size;rintro W4 ⟨k3,hb⟩;have hb:Below W3.heap.size W3 W4:=hb;have mi:=hbt pq hb;have K3:=hid k3;clear k3 hb;go_wp2;exact bodyPost_ret (v:=.bool false) (by simp[results,results14,go_sem]) rfl ⟨rfl,mi.o⟩
theorem z1Y (l u z:ByteArray)(xa xb xz:Rat)(k:Int)  (w:World)(hk:decide (k≤0)=false)(h1:KIb 31 (.agg #[.string l,.string u]) xa xb true)(h2:KSb 35 (.string z) xz true)(h3:KP2 36 xa xz (.int .i64 k))  :
 CR 14 #[.agg #[.string l,.string u],.string z] w (.bool false):=by
 obtain ⟨C1,C2,C3⟩:=av h1 h2 h3;have hkk:=hk;clear hk h1 h2 h3;go_enter func14,ntmps14
 go_upto_region 1 with fail
 refine aH w [(#[.string l,.string u],24)] rfl ?_;rintro W0 ⟨k1,hb⟩;have sw:=hid (show Below w.heap.size w W0 from hb);have K1:=hid k1;clear k1 hb;obtain ⟨rM,rV⟩:=aV K1.o rfl rfl;go_wp2_with fail
 with_reducible refine(C1.o _).mono ?_
 rintro e W1 ⟨wo,wu,rfl,r9,mf,hb⟩;clear rM rV;have K1:=hid (K1.o.below hb);have ww:=hbt sw hb;have RXa:=hid r9;have RXb:=hid mf;clear hb r9 mf;go_upto_region 2 with fail
 refine aH W1 [(#[.bool wo.b,.slice wo.a wo.n wo.c,.slice wo.e wo.m wo.d,.bool wu.b,.slice wu.a wu.n wu.c,.slice wu.e wu.m wu.d],55)] rfl ?_;have L1:=K1.o.lt;have L2:=ww.o.size;rintro W2 ⟨k2,hb⟩;have hb:Below W1.heap.size W1 W2:=hb;obtain ⟨K1,RXa⟩:=bG hb K1 RXa;have oM:=hbt ww hb;have K2:=hid k2;clear k2 hb;go_wp2_with fail
 with_reducible refine(C2.o _).mono ?_
 rintro e W3 ⟨u6,rfl,oV,hb⟩;obtain ⟨K1,K2,RXa⟩:=df hb K1 K2 RXa;have pq:=hbt oM hb;have RZ:=hid oV;clear hb oV;go_upto_region 3 with fail
 refine aH W3 [(#[.bool u6.b,.slice u6.a u6.n u6.c,.slice u6.e u6.m u6.d],53)] rfl ?_;have L3:=K1.o.lt;have L4:=K2.o.lt;have L5:=pq.o.size;rintro W4 ⟨k3,hb⟩;have hb:Below W3.heap.size W3 W4:=hb;obtain ⟨K2,RXa,RZ⟩:=df hb K2 RXa RZ;have mi:=hbt pq hb;have K3:=hid k3;clear k3 hb;obtain ⟨kz,kM,kV⟩:=bT K2.o rfl rfl rfl;obtain ⟨gy,gF,fq⟩:=bT K3.o rfl rfl rfl;go_wp2_with fail
 with_reducible refine(C3.o _ _ _ RXa.o RZ.o).mono ?_
 rintro e W5 ⟨rfl,hb⟩;clear kz kM kV gy gF fq;have l5:=hbt mi hb;clear hb;go_wp2;exact bodyPost_ret (v:=.bool false) (by simp[results,results14,go_sem]) rfl ⟨rfl,l5.o⟩
theorem z1Z (l u z:ByteArray)(xa xb xz:Rat)(k m:Int)(b:Bool)  (w:World)(hk:decide (k≤0)=true)(hm:decide (m≤0)=b)(h1:KIb 31 (.agg #[.string l,.string u]) xa xb true)(h2:KSb 35 (.string z) xz true)(h3:KP2 36 xa xz (.int .i64 k))(h4:KP2 36 xz xb (.int .i64 m))  :
 CR 14 #[.agg #[.string l,.string u],.string z] w (.bool b):=by
 obtain ⟨C1,C2,C3,C4⟩:=aP h1 h2 h3 h4;have hkk:=hk;have hmm:=hm;clear hk hm h1 h2 h3 h4;go_enter func14,ntmps14
 go_upto_region 1 with fail
 refine aH w [(#[.string l,.string u],24)] rfl ?_;rintro W0 ⟨k1,hb⟩;have sw:=hid (show Below w.heap.size w W0 from hb);have K1:=hid k1;clear k1 hb;obtain ⟨rM,rV⟩:=aV K1.o rfl rfl;go_wp2_with fail
 with_reducible refine(C1.o _).mono ?_
 rintro e W1 ⟨wo,wu,rfl,r9,mf,hb⟩;clear rM rV;have K1:=hid (K1.o.below hb);have ww:=hbt sw hb;have RXa:=hid r9;have RXb:=hid mf;clear hb r9 mf;go_upto_region 2 with fail
 refine aH W1 [(#[.bool wo.b,.slice wo.a wo.n wo.c,.slice wo.e wo.m wo.d,.bool wu.b,.slice wu.a wu.n wu.c,.slice wu.e wu.m wu.d],55)] rfl ?_;have L1:=K1.o.lt;have L2:=ww.o.size;rintro W2 ⟨k2,hb⟩;have hb:Below W1.heap.size W1 W2:=hb;obtain ⟨K1,RXa,RXb⟩:=df hb K1 RXa RXb;have oM:=hbt ww hb;have K2:=hid k2;clear k2 hb;go_wp2_with fail
 with_reducible refine(C2.o _).mono ?_
 rintro e W3 ⟨u6,rfl,oV,hb⟩;obtain ⟨K1,K2,RXa,RXb⟩:=cB hb K1 K2 RXa RXb;have pq:=hbt oM hb;have RZ:=hid oV;clear hb oV;go_upto_region 3 with fail
 refine aH W3 [(#[.bool u6.b,.slice u6.a u6.n u6.c,.slice u6.e u6.m u6.d],53)] rfl ?_;have L3:=K1.o.lt;have L4:=K2.o.lt;have L5:=pq.o.size;rintro W4 ⟨k3,hb⟩;have hb:Below W3.heap.size W3 W4:=hb;obtain ⟨K2,RXa,RXb,RZ⟩:=cB hb K2 RXa RXb RZ;have mi:=hbt pq hb;have K3:=hid k3;clear k3 hb;obtain ⟨kz,kM,kV⟩:=bT K2.o rfl rfl rfl;obtain ⟨gy,gF,fq⟩:=bT K3.o rfl rfl rfl;go_wp2_with fail
 with_reducible refine(C3.o _ _ _ RXa.o RZ.o).mono ?_
 rintro e W5 ⟨rfl,hb⟩;clear kz kM kV gy gF fq;obtain ⟨K2,K3,RXb,RZ⟩:=cB hb K2 K3 RXb RZ;have l5:=hbt mi hb;clear hb;obtain ⟨gy,gF,fq⟩:=bT K3.o rfl rfl rfl;have fQ:=K2.o.cell (i:=3) rfl;have ed:=K2.o.cell (i:=4) rfl;have dn:=K2.o.cell (i:=5) rfl;go_wp2_with fail
 with_reducible refine(C4.o _ _ _ RZ.o RXb.o).mono ?_
 rintro e W6 ⟨rfl,hb⟩;clear gy gF fq fQ ed dn;have bn:=hbt l5 hb;clear hb;go_wp2;exact bodyPost_ret (v:=.bool b) (by simp[results,results14,go_sem]) rfl ⟨rfl,bn.o⟩
theorem z1V (xa xb:Rat)(k m:Int)(q1a q1b:QS)(w:World)(hk:decide (0<k)=true)(h1:KP1 49 xa (.int .i64 k))(h2:KP1 49 xb (.int .i64 m))(r1a:FQ w q1a xa)(r1b:FQ w q1b xb) :
 CR 32 #[(Qii q1a q1b)] w (.tuple #[.int .i64 1,.bool true]):=by
 dsimp only[Qii];obtain ⟨C1,C2,R1a,R1b⟩:=aP h1 h2 r1a r1b;have hkk:=hk;clear hk h1 h2 r1a r1b;go_enter func32,ntmps32
 go_upto_region 1 with fail
 refine aH w [(#[.bool q1a.b,.slice q1a.a q1a.n q1a.c,.slice q1a.e q1a.m q1a.d,.bool q1b.b,.slice q1b.a q1b.n q1b.c,.slice q1b.e q1b.m q1b.d],55)] rfl ?_;rintro W0 ⟨k1,hb⟩;have sw:=hid (show Below w.heap.size w W0 from hb);obtain ⟨R1a,R1b⟩:=bG sw.o R1a R1b;have K1:=Lib.hid k1;clear k1 hb;go_wp2_with fail
 refine aX (fun a0 a' V=>a'=⟨putL [(6,.pointer (some ⟨w.heap.size,0,none⟩)),(7,q1a.v),(8,.int .i64 k),(9,.pointer (some ⟨w.heap.size,3,none⟩)),(10,q1b.v),(11,.int .i64 m),(4,.int .i64 k),(5,.int .i64 m)] a0.tmps,a0.defers⟩∧Below w.heap.size w V) ?_ ?_
 · refine bK (by kernel_rfl) 8 0 (fun i=>[6,7,8,9,10,11,4,5].getD i 0) (RelR [Rel.val (.pointer (some ⟨w.heap.size,0,none⟩)),Rel.val (q1a.v),Rel.val (.int .i64 k),Rel.val (.pointer (some ⟨w.heap.size,3,none⟩)),Rel.val (q1b.v),Rel.val (.int .i64 m),Rel.val (.int .i64 k),Rel.val (.int .i64 m)]) (fun W=>Below W0.heap.size W0 W) (fun _ _=>True) (by kernel_rfl) (by kernel_rfl) (by kernel_rfl) trivial (Below.refl _ _).drew ?_ ?_
   · intro wm a W i hI hD hrd him
     obtain ⟨HI,Hr⟩:=aI hI hrd;clear hI hrd hD;have y1:a.tmps[1]? = some (.pointer (some ⟨w.heap.size,0,none⟩)):=HI.o.rest 1 (by decide);obtain ⟨rM,rV,dx,dz,dX,dY⟩:=kC (K1.o.below HI.o.world) rfl rfl rfl rfl rfl rfl;have X0:RV _ wm a 0 6 (.pointer (some ⟨w.heap.size,0,none⟩)):=HI.o.rh;have X1:RV _ wm a 1 7 (q1a.v):=HI.o.rh;have X3:RV _ wm a 3 9 (.pointer (some ⟨w.heap.size,3,none⟩)):=HI.o.rh;have X4:RV _ wm a 4 10 (q1b.v):=HI.o.rh;have X2:RV _ wm a 2 8 (.int .i64 k):=HI.o.rh;have X5:RV _ wm a 5 11 (.int .i64 m):=HI.o.rh
     match i,him,Hr with
     | 0,_,Hi|1,_,Hi|3,_,Hi|4,_,Hi|6,_,Hi|7,_,Hi =>
       try have x0:=X0.g Hi.o (by decide +kernel)
       try have x3:=X3.g Hi.o (by decide +kernel)
       try have x2:=X2.g Hi.o (by decide +kernel)
       try have x5:=X5.g Hi.o (by decide +kernel)
       refine aQ rfl fun K' hK=>?_;go_simp;exact hK.o _ _ ⟨HI.o.pv Hi.o rfl,trivial⟩
     | 2,_,Hi =>
       have x1:=X1.g Hi.o (by kernel_rfl);refine aQ rfl fun K' hK=>?_;go_simp;with_reducible refine(C1.o _ _ (R1a.o.below HI.o.world)).mono ?_
       rintro e W' ⟨rfl,hb⟩;exact hK.o _ _ ⟨HI.o.pc Hi.o hb rfl,trivial⟩
     | 5,_,Hi =>
       have x4:=X4.g Hi.o (by kernel_rfl);refine aQ rfl fun K' hK=>?_;go_simp;with_reducible refine(C2.o _ _ (R1b.o.below HI.o.world)).mono ?_
       rintro e W' ⟨rfl,hb⟩;exact hK.o _ _ ⟨HI.o.pc Hi.o hb rfl,trivial⟩
     | n+8,h,_=>exact absurd h (by omega)
   · intro wm a W hI hD ol
     obtain ⟨lg,HI,HA⟩:=av hI.world hI ol;clear hI ol;have lv:=hid (sw.o.trans (lg.o.mono sw.o.size));refine dA ?_;exact⟨rfl,(HI.o.finx ⟨HI.o.sx HA.o 0,HI.o.sx HA.o 1,HI.o.sx HA.o 2,HI.o.sx HA.o 3,HI.o.sx HA.o 4,HI.o.sx HA.o 5,HI.o.sx HA.o 6,HI.o.sx HA.o 7,trivial⟩ rfl),lv.o⟩
 rintro a' W1 ⟨rfl,z0⟩;have ww:=hid z0;clear z0;simp only[putL,List.setIfInBounds_toArray,List.set_cons_zero,List.set_cons_succ];go_wp2;exact bodyPost_ret (v:=.tuple #[.int .i64 1,.bool true]) (by simp[results,results32,go_sem]) rfl ⟨rfl,ww.o⟩
theorem z1U (xa xb:Rat)(k m:Int)(q1a q1b:QS)(w:World)(hk:decide (0<k)=false)(hm:decide (m<0)=true)(h1:KP1 49 xa (.int .i64 k))(h2:KP1 49 xb (.int .i64 m))(r1a:FQ w q1a xa)(r1b:FQ w q1b xb) :
 CR 32 #[(Qii q1a q1b)] w (.tuple #[.int .i64 (-1),.bool true]):=by
 dsimp only[Qii];obtain ⟨C1,C2,R1a,R1b⟩:=aP h1 h2 r1a r1b;have hkk:=hk;have hmm:=hm;clear hk hm h1 h2 r1a r1b;go_enter func32,ntmps32
 go_upto_region 1 with fail
 refine aH w [(#[.bool q1a.b,.slice q1a.a q1a.n q1a.c,.slice q1a.e q1a.m q1a.d,.bool q1b.b,.slice q1b.a q1b.n q1b.c,.slice q1b.e q1b.m q1b.d],55)] rfl ?_;rintro W0 ⟨k1,hb⟩;have sw:=hid (show Below w.heap.size w W0 from hb);obtain ⟨R1a,R1b⟩:=bG sw.o R1a R1b;have K1:=Lib.hid k1;clear k1 hb;go_wp2_with fail
 refine aX (fun a0 a' V=>a'=⟨putL [(6,.pointer (some ⟨w.heap.size,0,none⟩)),(7,q1a.v),(8,.int .i64 k),(9,.pointer (some ⟨w.heap.size,3,none⟩)),(10,q1b.v),(11,.int .i64 m),(4,.int .i64 k),(5,.int .i64 m)] a0.tmps,a0.defers⟩∧Below w.heap.size w V) ?_ ?_
 · refine bK (by kernel_rfl) 8 0 (fun i=>[6,7,8,9,10,11,4,5].getD i 0) (RelR [Rel.val (.pointer (some ⟨w.heap.size,0,none⟩)),Rel.val (q1a.v),Rel.val (.int .i64 k),Rel.val (.pointer (some ⟨w.heap.size,3,none⟩)),Rel.val (q1b.v),Rel.val (.int .i64 m),Rel.val (.int .i64 k),Rel.val (.int .i64 m)]) (fun W=>Below W0.heap.size W0 W) (fun _ _=>True) (by kernel_rfl) (by kernel_rfl) (by kernel_rfl) trivial (Below.refl _ _).drew ?_ ?_
   · intro wm a W i hI hD hrd him
     obtain ⟨HI,Hr⟩:=aI hI hrd;clear hI hrd hD;have y1:a.tmps[1]? = some (.pointer (some ⟨w.heap.size,0,none⟩)):=HI.o.rest 1 (by decide);obtain ⟨rM,rV,dx,dz,dX,dY⟩:=kC (K1.o.below HI.o.world) rfl rfl rfl rfl rfl rfl;have X0:RV _ wm a 0 6 (.pointer (some ⟨w.heap.size,0,none⟩)):=HI.o.rh;have X1:RV _ wm a 1 7 (q1a.v):=HI.o.rh;have X3:RV _ wm a 3 9 (.pointer (some ⟨w.heap.size,3,none⟩)):=HI.o.rh;have X4:RV _ wm a 4 10 (q1b.v):=HI.o.rh;have X2:RV _ wm a 2 8 (.int .i64 k):=HI.o.rh;have X5:RV _ wm a 5 11 (.int .i64 m):=HI.o.rh
     match i,him,Hr with
     | 0,_,Hi|1,_,Hi|3,_,Hi|4,_,Hi|6,_,Hi|7,_,Hi =>
       try have x0:=X0.g Hi.o (by decide +kernel)
       try have x3:=X3.g Hi.o (by decide +kernel)
       try have x2:=X2.g Hi.o (by decide +kernel)
       try have x5:=X5.g Hi.o (by decide +kernel)
       refine aQ rfl fun K' hK=>?_;go_simp;exact hK.o _ _ ⟨HI.o.pv Hi.o rfl,trivial⟩
     | 2,_,Hi =>
       have x1:=X1.g Hi.o (by kernel_rfl);refine aQ rfl fun K' hK=>?_;go_simp;with_reducible refine(C1.o _ _ (R1a.o.below HI.o.world)).mono ?_
       rintro e W' ⟨rfl,hb⟩;exact hK.o _ _ ⟨HI.o.pc Hi.o hb rfl,trivial⟩
     | 5,_,Hi =>
       have x4:=X4.g Hi.o (by kernel_rfl);refine aQ rfl fun K' hK=>?_;go_simp;with_reducible refine(C2.o _ _ (R1b.o.below HI.o.world)).mono ?_
       rintro e W' ⟨rfl,hb⟩;exact hK.o _ _ ⟨HI.o.pc Hi.o hb rfl,trivial⟩
     | n+8,h,_=>exact absurd h (by omega)
   · intro wm a W hI hD ol
     obtain ⟨lg,HI,HA⟩:=av hI.world hI ol;clear hI ol;have lv:=hid (sw.o.trans (lg.o.mono sw.o.size));refine dA ?_;exact⟨rfl,(HI.o.finx ⟨HI.o.sx HA.o 0,HI.o.sx HA.o 1,HI.o.sx HA.o 2,HI.o.sx HA.o 3,HI.o.sx HA.o 4,HI.o.sx HA.o 5,HI.o.sx HA.o 6,HI.o.sx HA.o 7,trivial⟩ rfl),lv.o⟩
 rintro a' W1 ⟨rfl,z0⟩;have ww:=hid z0;clear z0;simp only[putL,List.setIfInBounds_toArray,List.set_cons_zero,List.set_cons_succ];go_wp2;exact bodyPost_ret (v:=.tuple #[.int .i64 (-1),.bool true]) (by simp[results,results32,go_sem]) rfl ⟨rfl,ww.o⟩
theorem yX (xa xb:Rat)(k m:Int)(q1a q1b:QS)(w:World)(hk:decide (0<k)=false)(hm:decide (m<0)=false)(hn:(k==0)=false)(h1:KP1 49 xa (.int .i64 k))(h2:KP1 49 xb (.int .i64 m))(r1a:FQ w q1a xa)(r1b:FQ w q1b xb) :
 CR 32 #[(Qii q1a q1b)] w (.tuple #[.int .i64 0,.bool false]):=by
 dsimp only[Qii];obtain ⟨C1,C2,R1a,R1b⟩:=aP h1 h2 r1a r1b;have hkk:=hk;have hmm:=hm;have hnn:=hn;have hn2:¬ k=0:=by simpa using hn
 have hn3:decide (k=0)=false:=decide_eq_false hn2;clear hk hm hn h1 h2 r1a r1b;go_enter func32,ntmps32
 go_upto_region 1 with fail
 refine aH w [(#[.bool q1a.b,.slice q1a.a q1a.n q1a.c,.slice q1a.e q1a.m q1a.d,.bool q1b.b,.slice q1b.a q1b.n q1b.c,.slice q1b.e q1b.m q1b.d],55)] rfl ?_;rintro W0 ⟨k1,hb⟩;have sw:=hid (show Below w.heap.size w W0 from hb);obtain ⟨R1a,R1b⟩:=bG sw.o R1a R1b;have K1:=Lib.hid k1;clear k1 hb;go_wp2_with fail
 refine aX (fun a0 a' V=>a'=⟨putL [(6,.pointer (some ⟨w.heap.size,0,none⟩)),(7,q1a.v),(8,.int .i64 k),(9,.pointer (some ⟨w.heap.size,3,none⟩)),(10,q1b.v),(11,.int .i64 m),(4,.int .i64 k),(5,.int .i64 m)] a0.tmps,a0.defers⟩∧Below w.heap.size w V) ?_ ?_
 · refine bK (by kernel_rfl) 8 0 (fun i=>[6,7,8,9,10,11,4,5].getD i 0) (RelR [Rel.val (.pointer (some ⟨w.heap.size,0,none⟩)),Rel.val (q1a.v),Rel.val (.int .i64 k),Rel.val (.pointer (some ⟨w.heap.size,3,none⟩)),Rel.val (q1b.v),Rel.val (.int .i64 m),Rel.val (.int .i64 k),Rel.val (.int .i64 m)]) (fun W=>Below W0.heap.size W0 W) (fun _ _=>True) (by kernel_rfl) (by kernel_rfl) (by kernel_rfl) trivial (Below.refl _ _).drew ?_ ?_
   · intro wm a W i hI hD hrd him
     obtain ⟨HI,Hr⟩:=aI hI hrd;clear hI hrd hD;have y1:a.tmps[1]? = some (.pointer (some ⟨w.heap.size,0,none⟩)):=HI.o.rest 1 (by decide);obtain ⟨rM,rV,dx,dz,dX,dY⟩:=kC (K1.o.below HI.o.world) rfl rfl rfl rfl rfl rfl;have X0:RV _ wm a 0 6 (.pointer (some ⟨w.heap.size,0,none⟩)):=HI.o.rh;have X1:RV _ wm a 1 7 (q1a.v):=HI.o.rh;have X3:RV _ wm a 3 9 (.pointer (some ⟨w.heap.size,3,none⟩)):=HI.o.rh;have X4:RV _ wm a 4 10 (q1b.v):=HI.o.rh;have X2:RV _ wm a 2 8 (.int .i64 k):=HI.o.rh;have X5:RV _ wm a 5 11 (.int .i64 m):=HI.o.rh
     match i,him,Hr with
     | 0,_,Hi|1,_,Hi|3,_,Hi|4,_,Hi|6,_,Hi|7,_,Hi =>
       try have x0:=X0.g Hi.o (by decide +kernel)
       try have x3:=X3.g Hi.o (by decide +kernel)
       try have x2:=X2.g Hi.o (by decide +kernel)
       try have x5:=X5.g Hi.o (by decide +kernel)
       refine aQ rfl fun K' hK=>?_;go_simp;exact hK.o _ _ ⟨HI.o.pv Hi.o rfl,trivial⟩
     | 2,_,Hi =>
       have x1:=X1.g Hi.o (by kernel_rfl);refine aQ rfl fun K' hK=>?_;go_simp;with_reducible refine(C1.o _ _ (R1a.o.below HI.o.world)).mono ?_
       rintro e W' ⟨rfl,hb⟩;exact hK.o _ _ ⟨HI.o.pc Hi.o hb rfl,trivial⟩
     | 5,_,Hi =>
       have x4:=X4.g Hi.o (by kernel_rfl);refine aQ rfl fun K' hK=>?_;go_simp;with_reducible refine(C2.o _ _ (R1b.o.below HI.o.world)).mono ?_
       rintro e W' ⟨rfl,hb⟩;exact hK.o _ _ ⟨HI.o.pc Hi.o hb rfl,trivial⟩
     | n+8,h,_=>exact absurd h (by omega)
   · intro wm a W hI hD ol
     obtain ⟨lg,HI,HA⟩:=av hI.world hI ol;clear hI ol;have lv:=hid (sw.o.trans (lg.o.mono sw.o.size));refine dA ?_;exact⟨rfl,(HI.o.finx ⟨HI.o.sx HA.o 0,HI.o.sx HA.o 1,HI.o.sx HA.o 2,HI.o.sx HA.o 3,HI.o.sx HA.o 4,HI.o.sx HA.o 5,HI.o.sx HA.o 6,HI.o.sx HA.o 7,trivial⟩ rfl),lv.o⟩
 rintro a' W1 ⟨rfl,z0⟩;have ww:=hid z0;clear z0;simp only[putL,List.setIfInBounds_toArray,List.set_cons_zero,List.set_cons_succ];go_wp2;exact bodyPost_ret (v:=.tuple #[.int .i64 0,.bool false]) (by simp[results,results32,go_sem]) rfl ⟨rfl,ww.o⟩
theorem yV (xa xb:Rat)(k m:Int)(b:Bool)(q1a q1b:QS)(w:World)(hk:decide (0<k)=false)(hm:decide (m<0)=false)(hn:(k==0)=true)(hj:(m==0)=b)(h1:KP1 49 xa (.int .i64 k))(h2:KP1 49 xb (.int .i64 m))(r1a:FQ w q1a xa)(r1b:FQ w q1b xb) :
 CR 32 #[(Qii q1a q1b)] w (.tuple #[.int .i64 0,.bool b]):=by
 dsimp only[Qii];obtain ⟨C1,C2,R1a,R1b⟩:=aP h1 h2 r1a r1b;have hkk:=hk;have hmm:=hm;have hnn:=hn;have hjj:=hj;have hn3:decide (k=0)=true:=decide_eq_true (by simpa using hn);clear hk hm hn hj h1 h2 r1a r1b;go_enter func32,ntmps32
 go_upto_region 1 with fail
 refine aH w [(#[.bool q1a.b,.slice q1a.a q1a.n q1a.c,.slice q1a.e q1a.m q1a.d,.bool q1b.b,.slice q1b.a q1b.n q1b.c,.slice q1b.e q1b.m q1b.d],55)] rfl ?_;rintro W0 ⟨k1,hb⟩;have sw:=hid (show Below w.heap.size w W0 from hb);obtain ⟨R1a,R1b⟩:=bG sw.o R1a R1b;have K1:=Lib.hid k1;clear k1 hb;go_wp2_with fail
 refine aX (fun a0 a' V=>a'=⟨putL [(6,.pointer (some ⟨w.heap.size,0,none⟩)),(7,q1a.v),(8,.int .i64 k),(9,.pointer (some ⟨w.heap.size,3,none⟩)),(10,q1b.v),(11,.int .i64 m),(4,.int .i64 k),(5,.int .i64 m)] a0.tmps,a0.defers⟩∧Below w.heap.size w V) ?_ ?_
 · refine bK (by kernel_rfl) 8 0 (fun i=>[6,7,8,9,10,11,4,5].getD i 0) (RelR [Rel.val (.pointer (some ⟨w.heap.size,0,none⟩)),Rel.val (q1a.v),Rel.val (.int .i64 k),Rel.val (.pointer (some ⟨w.heap.size,3,none⟩)),Rel.val (q1b.v),Rel.val (.int .i64 m),Rel.val (.int .i64 k),Rel.val (.int .i64 m)]) (fun W=>Below W0.heap.size W0 W) (fun _ _=>True) (by kernel_rfl) (by kernel_rfl) (by kernel_rfl) trivial (Below.refl _ _).drew ?_ ?_
   · intro wm a W i hI hD hrd him
     obtain ⟨HI,Hr⟩:=aI hI hrd;clear hI hrd hD;have y1:a.tmps[1]? = some (.pointer (some ⟨w.heap.size,0,none⟩)):=HI.o.rest 1 (by decide);obtain ⟨rM,rV,dx,dz,dX,dY⟩:=kC (K1.o.below HI.o.world) rfl rfl rfl rfl rfl rfl;have X0:RV _ wm a 0 6 (.pointer (some ⟨w.heap.size,0,none⟩)):=HI.o.rh;have X1:RV _ wm a 1 7 (q1a.v):=HI.o.rh;have X3:RV _ wm a 3 9 (.pointer (some ⟨w.heap.size,3,none⟩)):=HI.o.rh;have X4:RV _ wm a 4 10 (q1b.v):=HI.o.rh;have X2:RV _ wm a 2 8 (.int .i64 k):=HI.o.rh;have X5:RV _ wm a 5 11 (.int .i64 m):=HI.o.rh
     match i,him,Hr with
     | 0,_,Hi|1,_,Hi|3,_,Hi|4,_,Hi|6,_,Hi|7,_,Hi =>
       try have x0:=X0.g Hi.o (by decide +kernel)
       try have x3:=X3.g Hi.o (by decide +kernel)
       try have x2:=X2.g Hi.o (by decide +kernel)
       try have x5:=X5.g Hi.o (by decide +kernel)
       refine aQ rfl fun K' hK=>?_;go_simp;exact hK.o _ _ ⟨HI.o.pv Hi.o rfl,trivial⟩
     | 2,_,Hi =>
       have x1:=X1.g Hi.o (by kernel_rfl);refine aQ rfl fun K' hK=>?_;go_simp;with_reducible refine(C1.o _ _ (R1a.o.below HI.o.world)).mono ?_
       rintro e W' ⟨rfl,hb⟩;exact hK.o _ _ ⟨HI.o.pc Hi.o hb rfl,trivial⟩
     | 5,_,Hi =>
       have x4:=X4.g Hi.o (by kernel_rfl);refine aQ rfl fun K' hK=>?_;go_simp;with_reducible refine(C2.o _ _ (R1b.o.below HI.o.world)).mono ?_
       rintro e W' ⟨rfl,hb⟩;exact hK.o _ _ ⟨HI.o.pc Hi.o hb rfl,trivial⟩
     | n+8,h,_=>exact absurd h (by omega)
   · intro wm a W hI hD ol
     obtain ⟨lg,HI,HA⟩:=av hI.world hI ol;clear hI ol;have lv:=hid (sw.o.trans (lg.o.mono sw.o.size));refine dA ?_;exact⟨rfl,(HI.o.finx ⟨HI.o.sx HA.o 0,HI.o.sx HA.o 1,HI.o.sx HA.o 2,HI.o.sx HA.o 3,HI.o.sx HA.o 4,HI.o.sx HA.o 5,HI.o.sx HA.o 6,HI.o.sx HA.o 7,trivial⟩ rfl),lv.o⟩
 rintro a' W1 ⟨rfl,z0⟩;have ww:=hid z0;clear z0;simp only[putL,List.setIfInBounds_toArray,List.set_cons_zero,List.set_cons_succ];go_wp2;exact bodyPost_ret (v:=.tuple #[.int .i64 0,.bool b]) (by simp[results,results32,go_sem]) rfl ⟨rfl,ww.o⟩
theorem z0F (l u:ByteArray)(xa xb:Rat)  (w:World)  (h1:KIb 31 (.agg #[.string l,.string u]) xa xb false)  :
 CR 10 #[.agg #[.string l,.string u]] w (.tuple #[.int .i64 0,.bool false,.int .i64 1]):=by
 have C1:=hid h1;clear h1;go_enter func10,ntmps10
 go_upto_region 1 with fail
 refine aH w [(#[.string l,.string u],24)] rfl ?_;rintro W0 ⟨k1,hb⟩;have sw:=hid (show Below w.heap.size w W0 from hb);have K1:=hid k1;clear k1 hb;obtain ⟨rM,rV⟩:=aV K1.o rfl rfl;go_wp2_with fail
 with_reducible refine(C1.o _).mono ?_
 rintro e W1 ⟨wo,wu,rfl,r9,mf,hb⟩;clear rM rV;have K1:=hid (K1.o.below hb);have ww:=hbt sw hb;have RXa:=hid r9;have RXb:=hid mf;clear hb r9 mf;go_upto_region 2 with fail
 refine aH W1 [(#[.bool wo.b,.slice wo.a wo.n wo.c,.slice wo.e wo.m wo.d,.bool wu.b,.slice wu.a wu.n wu.c,.slice wu.e wu.m wu.d],55)] rfl ?_;have L1:=K1.o.lt;have L2:=ww.o.size;rintro W2 ⟨k2,hb⟩;have hb:Below W1.heap.size W1 W2:=hb;have oM:=hbt ww hb;have K2:=hid k2;clear k2 hb;go_wp2;exact bodyPost_ret (v:=.tuple #[.int .i64 0,.bool false,.int .i64 1]) (by simp[results,results10,go_sem]) rfl ⟨rfl,oM.o⟩
theorem yY (l u:ByteArray)(xa xb:Rat)(k:Int)(b:Bool)  (w:World)  (h1:KIb 31 (.agg #[.string l,.string u]) xa xb true)(h2:KI2 32 xa xb (.tuple #[.int .i64 k,.bool b]))  :
 CR 10 #[.agg #[.string l,.string u]] w (.tuple #[.int .i64 k,.bool b,.int .i64 0]):=by
 have C1:=hid h1;have C2:=hid h2;clear h1 h2;go_enter func10,ntmps10
 go_upto_region 1 with fail
 refine aH w [(#[.string l,.string u],24)] rfl ?_;rintro W0 ⟨k1,hb⟩;have sw:=hid (show Below w.heap.size w W0 from hb);have K1:=hid k1;clear k1 hb;obtain ⟨rM,rV⟩:=aV K1.o rfl rfl;go_wp2_with fail
 with_reducible refine(C1.o _).mono ?_
 rintro e W1 ⟨wo,wu,rfl,r9,mf,hb⟩;clear rM rV;have K1:=hid (K1.o.below hb);have ww:=hbt sw hb;have RXa:=hid r9;have RXb:=hid mf;clear hb r9 mf;go_upto_region 2 with fail
 refine aH W1 [(#[.bool wo.b,.slice wo.a wo.n wo.c,.slice wo.e wo.m wo.d,.bool wu.b,.slice wu.a wu.n wu.c,.slice wu.e wu.m wu.d],55)] rfl ?_;have L1:=K1.o.lt;have L2:=ww.o.size;rintro W2 ⟨k2,hb⟩;have hb:Below W1.heap.size W1 W2:=hb;obtain ⟨RXa,RXb⟩:=bG hb RXa RXb;have oM:=hbt ww hb;have K2:=hid k2;clear k2 hb;obtain ⟨kz,kM,kV,fQ,ed,dn⟩:=kC K2.o rfl rfl rfl rfl rfl rfl;go_wp2_with fail
 with_reducible refine(C2.o _ _ _ RXa.o RXb.o).mono ?_
 rintro e W3 ⟨rfl,hb⟩;clear kz kM kV fQ ed dn;have pq:=hbt oM hb;clear hb;go_wp2;exact bodyPost_ret (v:=.tuple #[.int .i64 k,.bool b,.int .i64 0]) (by simp[results,results10,go_sem]) rfl ⟨rfl,pq.o⟩
