/- texts -/
import Derived.Test.YtikihamjpenboaaGreatDoorMz31q
set_option maxRecDepth 100000
set_option maxHeartbeats 20000000
open Go.Lib (hid)
namespace Go.Proofs.YtikihamjpenboaaGreatDoor
open Go.RowKit Go.Gb
set_option linter.unusedSimpArgs false
set_option linter.unusedVariables false
abbrev RIb (W:World) (x y:Rat) (b:Bool):Ending→World→Prop:=fun e w'=>∃ qa qb:QS,e=.returned (.tuple #[.agg #[.bool qa.b,.slice qa.a qa.n qa.c,.slice qa.e qa.m qa.d,.bool qb.b,.slice qb.a qb.n qb.c,.slice qb.e qb.m qb.d],.bool b])∧FQ w' qa x∧FQ w' qb y∧Below W.heap.size W w'
abbrev KIb (f:Nat) (v0:Value) (x y:Rat) (b:Bool):Prop:=∀ W:World,Calls Tryz.prog f #[v0] W (RIb W x y b)
abbrev KI2 (f:Nat) (x y:Rat) (v:Value):Prop:=∀ (qa qb:QS) (W:World),FQ W qa x→FQ W qb y→Calls Tryz.prog f #[.agg #[.bool qa.b,.slice qa.a qa.n qa.c,.slice qa.e qa.m qa.d,.bool qb.b,.slice qb.a qb.n qb.c,.slice qb.e qb.m qb.d]] W (RP W v)
def Rel.blk (g:Nat) (cs:Array Value) (T:TypeId):Rel:=⟨fun _ W=>SBk W g cs T,fun _ _ _ h hb=>h.below hb⟩
theorem RInv.stored {ops:Array Oper}{m:Nat}{sl:Nat→Nat}{a0:Act}{vs:List Value}{r:Rel}{P:World→Prop}{si:Array Bool}{a:Act}{w w':World}(h:RInv ops m sl (RelR (List.map Rel.val vs++[r])) a0 P si a w)(hm:m=vs.length+1)(hi:vs.length∈Region.ready .any ops si)(hk:∃ v,a.tmps[sl vs.length]? = some v∧r.R v w')(hP:P w'):RInv ops m sl (RelR (List.map Rel.val vs++[r])) a0 P (si.setIfInBounds vs.length true) a w':=by
 refine⟨h.closed.set hi,by simpa using h.size,fun i hi' hl=>?_,h.rest,h.tsize,h.defers,hP⟩;have e2:(List.map Rel.val vs++[r]).getD vs.length (Rel.val undef)=r:=by simp[List.getD]
 rcases iN hl with rfl|hl
 · obtain⟨v,h1,h2⟩:=hk
   refine⟨v,h1,?_⟩;unfold RelR
   rw[e2];exact h2
 · obtain⟨v,h1,h2⟩:=h.slots i hi' hl
   by_cases hiv:i<vs.length
   · refine⟨v,h1,?_⟩
     have e:(List.map Rel.val vs++[r]).getD i (Rel.val undef)=Rel.val vs[i]:=by simp[List.getD,List.getElem?_append_left,hiv]
     unfold RelR at h2 ⊢
     rw[e]at h2 ⊢;exact h2
   · have hie:i=vs.length:=by omega
     subst hie;have hu:=nE hi;rw[Array.getD_eq_getD_getElem?]at hl hu
     cases hq:si[vs.length]? with
     | none=>rw[hq]at hu;cases hu
     | some b=>rw[hq]at hl hu;simp at hl hu;rw[hl]at hu;cases hu
abbrev Lii (qa qb:QS):List Value:=[.bool qa.b,.slice qa.a qa.n qa.c,.slice qa.e qa.m qa.d,.bool qb.b,.slice qb.a qb.n qb.c,.slice qb.e qb.m qb.d]
abbrev Qii (qa qb:QS):Value:=.agg #[.bool qa.b,.slice qa.a qa.n qa.c,.slice qa.e qa.m qa.d,.bool qb.b,.slice qb.a qb.n qb.c,.slice qb.e qb.m qb.d]
theorem z2a {w:World}{g:Nat}{T:TypeId}{x0 x1 x2 x3 x4 x5:Value}(h:SBk w g #[x0,x1,x2,x3,x4,x5] T):w.cell? ⟨g,0,none⟩=some x0∧w.cell? ⟨g,1,none⟩=some x1∧w.cell? ⟨g,2,none⟩=some x2∧w.cell? ⟨g,3,none⟩=some x3∧w.cell? ⟨g,4,none⟩=some x4∧w.cell? ⟨g,5,none⟩=some x5:=⟨h.cell (i:=0) rfl,h.cell (i:=1) rfl,h.cell (i:=2) rfl,h.cell (i:=3) rfl,h.cell (i:=4) rfl,h.cell (i:=5) rfl⟩
theorem sJ (l u:ByteArray)(xa xb:Rat)(bd:Bool)  (w:World)  (h1:KSb 22 (.string l) xa false)(h2:KSb 22 (.string u) xb bd)  :
 Calls Tryz.prog 35 #[.agg #[.string l,.string u]] w (RIb w xa xb false):=by
 have C1:=hid h1;have C2:=hid h2;clear h1 h2;go_enter Tryz.func35,Tryz.ntmps35
 go_upto_region 1 with fail
 refine az w [(#[.string l,.string u],24),(#[.bool false,.slice none 0 0,.slice none 0 0,.bool false,.slice none 0 0,.slice none 0 0],64)] rfl ?_;rintro W0 ⟨k1,k2,hb⟩;have rq:=hid (show Below w.heap.size w W0 from hb);have K1:=hid k1;have K2:=hid k2;clear k1 k2 hb;have ru:=K1.o.cell (i:=0) rfl;go_wp2_with fail
 with_reducible refine(C1.o _).mono ?_
 rintro e W1 ⟨u6,rfl,sj,hb⟩;clear ru;obtain ⟨K1,K2⟩:=aH hb K1 K2;have wo:=hbt rq hb;have RA:=hid sj;clear hb sj;go_upto_region 2 with fail
 refine az W1 [(u6.l.toArray,51)] rfl ?_;have L1:=K1.o.lt;have L2:=K2.o.lt;have L3:=wo.o.size;rintro W2 ⟨k3,hb⟩;have hb:Below W1.heap.size W1 W2:=hb;obtain ⟨K1,K2,RA⟩:=bG hb K1 K2 RA;have rM:=hbt wo hb;have K3:=hid k3;clear k3 hb;have rV:=K1.o.cell (i:=1) rfl;go_wp2_with fail
 with_reducible refine(C2.o _).mono ?_
 rintro e W3 ⟨w9,rfl,sw,hb⟩;clear rV;obtain ⟨K1,K2,K3,RA⟩:=aW hb K1 K2 K3 RA;have wu:=hbt rM hb;have RB:=hid sw;clear hb sw;go_upto_region 3 with fail
 refine az W3 [(w9.l.toArray,51)] rfl ?_;have L4:=K1.o.lt;have L5:=K2.o.lt;have L6:=K3.o.lt;have L7:=wu.o.size;rintro W4 ⟨k4,hb⟩;have hb:Below W3.heap.size W3 W4:=hb;obtain ⟨K2,K3,RA,RB⟩:=aW hb K2 K3 RA RB;have r9:=hbt wu hb;have K4:=hid k4;clear k4 hb;go_wp2_with fail
 refine aF (fun a0 a' V=>a'=⟨putL [(20,u6.v),(21,w9.v),(22,Qii u6 w9),(23,.bool false),(24,.bool false),(25,undef),(26,.bool false),(27,.bool false),(28,undef),(29,undef),(30,undef),(31,undef),(32,.bool false),(0,(.agg #[.string l,.string u])),(3,.bool false)] a0.tmps,a0.defers⟩∧Below w.heap.size w V∧SBk V (w.heap.size+1) (Lii u6 w9).toArray 64∧FQ V u6 xa∧FQ V w9 xb) ?_ ?_
 · have hd:=(Below.refl W4.heap.size W4).drew
   refine bK (by kernel_rfl) 14 1 (fun i=>[20,21,22,23,24,25,26,27,28,29,30,31,32,0].getD i 0) (RelR (List.map Rel.val [u6.v,w9.v,Qii u6 w9,.bool false,.bool false,undef,.bool false,.bool false,undef,undef,undef,undef,.bool false]++[Rel.blk (w.heap.size+1) (Lii u6 w9).toArray 64])) (fun W=>Below w.heap.size w W∧(∃ cs:Array Value,cs.size=6∧bF cs=true∧SBk W (w.heap.size+1) cs 64)∧SBk W W1.heap.size u6.l.toArray 51∧SBk W W3.heap.size w9.l.toArray 51∧FQ W u6 xa∧FQ W w9 xb) (fun _ a=>a.tmps[0]? = some (.agg #[.string l,.string u])) (by kernel_rfl) (by kernel_rfl) (by kernel_rfl) rfl ⟨r9.o.trans (hd.mono r9.o.size),⟨_,rfl,by simp[bF],K2.o.below hd⟩,K3.o.below hd,K4.o.below hd,RA.o.below hd,RB.o.below hd⟩ ?_ ?_
   · intro si a W i hI hD hrd him
     obtain ⟨HI,HD,Hr⟩:=ak hI hD hrd;clear hI hrd hD hd;obtain⟨y2,y4,y5⟩:=HI.o.s3 2 4 5;obtain⟨y6,y7⟩:=HI.o.s2 6 7;obtain⟨HW1,HW2,HW3,HW4,HF1,HF2⟩:=HI.o.world;obtain⟨d0,d1,d2⟩:=cells3 HW3;obtain⟨e0,e1,e2⟩:=cells3 HW4;obtain ⟨HW1,HW2,HW3,HW4,HF1,HF2⟩:=cz HW1 HW2 HW3 HW4 HF1 HF2;obtain⟨X0,X1,X2,X3,X4,X5⟩:=HI.o.g6 0 20 1 21 2 22 3 23 4 24 5 25;obtain⟨X6,X7,X8,X9,X10,X11⟩:=HI.o.g6 6 26 7 27 8 28 9 29 10 30 11 31;have X12:=HI.o.rg 12 32 rfl
     match i,him,Hr with
     | 0,_,Hi|1,_,Hi|2,_,Hi =>
       try have x0:=X0.t Hi.o
       try dsimp only[QS.v,Qii]at x0
       try have x1:=X1.t Hi.o
       try dsimp only[QS.v,Qii]at x1
       refine aA rfl fun K' hK=>?_;go_simp;exact hK.o _ _ ⟨HI.o.pv Hi.o rfl,(dO (by decide)).trans HD.o⟩
     | 3,_,Hi|4,_,Hi|5,_,Hi|6,_,Hi|7,_,Hi =>
       try have x3:=X3.t Hi.o
       try dsimp only[QS.v,Qii]at x3
       try have x4:=X4.t Hi.o
       try dsimp only[QS.v,Qii]at x4
       try have x5:=X5.t Hi.o
       try dsimp only[QS.v,Qii]at x5
       try have x6:=X6.t Hi.o
       try dsimp only[QS.v,Qii]at x6
       refine aA rfl fun K' hK=>?_;go_simp;exact hK.o _ _ ⟨HI.o.pv Hi.o rfl,(dO (by decide)).trans HD.o⟩
     | 8,_,Hi|9,_,Hi|10,_,Hi|11,_,Hi =>
       try have x7:=X7.t Hi.o
       try dsimp only[QS.v,Qii]at x7
       refine aA rfl fun K' hK=>?_;go_simp;exact hK.o _ _ ⟨HI.o.pv Hi.o rfl,(dO (by decide)).trans HD.o⟩
     | 12,_,Hi =>
       try have x7:=X7.t Hi.o
       try dsimp only[QS.v,Qii]at x7
       try have x11:=X11.t Hi.o
       try dsimp only[QS.v,Qii]at x11
       refine aA rfl fun K' hK=>?_;go_simp;exact hK.o _ _ ⟨HI.o.pv Hi.o rfl,(dO (by decide)).trans HD.o⟩
     | 13,_,Hi =>
       have x2:a.tmps[22]? = some (.agg (Lii u6 w9).toArray):=X2.q Hi.o;obtain⟨cs0,hc0,hn0,hk0⟩:=HW2.o;refine aA rfl fun K' hK=>?_;change Oper.wp _ _ _ _ _ _;refine wp_store_row _ _ _ rfl (w.heap.size+1) (Lii u6 w9).toArray (kr y2) (kr x2) _ _ hk0 (ou 6 rfl (by kernel_rfl)) (by rw[hc0];rfl) (by simp[Value.oneCell',Lii]) ?_;have hs:=(jE (vs:=Lii u6 w9) hk0 (by rw[hc0];rfl)).symm;have hp:(Lii u6 w9).all aY=true:=by simp[aY,Lii]
       refine hK.o _ _ ⟨RInv.stored HI.o rfl Hi.o ⟨_,HD.o,SBk.row hk0 _⟩ ⟨oP HW1.o _ (by omega),⟨_,rfl,by simp[bF,Lii],SBk.row hk0 _⟩,?_,?_,?_,?_⟩,HD.o⟩
       · exact(setRow_other _ _ _ _ (by have:=L2;have:=wo.o.size;omega)).trans HW3.o
       · exact(setRow_other _ _ _ _ (by have:=L5;have:=wu.o.size;omega)).trans HW4.o
       · rw[hs];exact eu _ 0 HF1.o hk0 hn0 hp
       · rw[hs];exact eu _ 0 HF2.o hk0 hn0 hp
     | n+14,h,_=>exact absurd h (by omega)
   · intro si a W hI hD ww
     obtain ⟨HI,HA⟩:=aD hI ww;obtain⟨_,_,hblk⟩:=hI.slots 13 (by decide) (ww 13 (by decide));have hblk:=hid (show SBk W (w.heap.size+1) (Lii u6 w9).toArray 64 from hblk);obtain⟨hw1,_,_,_,hf1,hf2⟩:=hI.world;obtain ⟨HW1,HF1,HF2⟩:=ak hw1 hf1 hf2;clear hI ww hw1 hf1 hf2;have x12:a.tmps[32]? = some (.bool false):=HI.o.sx HA.o 12;have EA:=hid (HI.o.finx (L:=[(20,u6.v),(21,w9.v),(22,Qii u6 w9),(23,.bool false),(24,.bool false),(25,undef),(26,.bool false),(27,.bool false),(28,undef),(29,undef),(30,undef),(31,undef),(32,.bool false),(0,(.agg #[.string l,.string u]))]) ⟨HI.o.sx HA.o 0,HI.o.sx HA.o 1,HI.o.sx HA.o 2,HI.o.sx HA.o 3,HI.o.sx HA.o 4,HI.o.sx HA.o 5,HI.o.sx HA.o 6,HI.o.sx HA.o 7,HI.o.sx HA.o 8,HI.o.sx HA.o 9,HI.o.sx HA.o 10,HI.o.sx HA.o 11,HI.o.sx HA.o 12,hD,trivial⟩ rfl);refine bz (t:=0) ?_;refine aA rfl fun K' hK=>?_;go_simp;refine hK.o _ _ ?_;clear hK;refine bi ?_;exact⟨rfl,nG EA.o rfl,HW1.o,hblk.o,HF1.o,HF2.o⟩
 rintro a' W5 ⟨rfl,z0,z1,z2,z3⟩;obtain ⟨p8,K2,RA,RB⟩:=aM z0 z1 z2 z3;clear z0 z1 z2 z3;simp only[putL,List.setIfInBounds_toArray,List.set_cons_zero,List.set_cons_succ];go_wp2;obtain⟨d0,d1,d2,d3,d4,d5⟩:=z2a K2.o;exact bodyPost_ret (v:=.tuple #[.agg (Lii u6 w9).toArray,.bool false]) (by simp[Lii,results,Tryz.results35,go_sem,d0,d1,d2,d3,d4,d5]) rfl ⟨_,_,rfl,RA.o,RB.o,p8.o⟩
theorem z3u (l u:ByteArray)(xa xb:Rat)  (w:World)  (h1:KSb 22 (.string l) xa true)(h2:KSb 22 (.string u) xb false)  :
 Calls Tryz.prog 35 #[.agg #[.string l,.string u]] w (RIb w xa xb false):=by
 have C1:=hid h1;have C2:=hid h2;clear h1 h2;go_enter Tryz.func35,Tryz.ntmps35
 go_upto_region 1 with fail
 refine az w [(#[.string l,.string u],24),(#[.bool false,.slice none 0 0,.slice none 0 0,.bool false,.slice none 0 0,.slice none 0 0],64)] rfl ?_;rintro W0 ⟨k1,k2,hb⟩;have rq:=hid (show Below w.heap.size w W0 from hb);have K1:=hid k1;have K2:=hid k2;clear k1 k2 hb;have ru:=K1.o.cell (i:=0) rfl;go_wp2_with fail
 with_reducible refine(C1.o _).mono ?_
 rintro e W1 ⟨u6,rfl,sj,hb⟩;clear ru;obtain ⟨K1,K2⟩:=aH hb K1 K2;have wo:=hbt rq hb;have RA:=hid sj;clear hb sj;go_upto_region 2 with fail
 refine az W1 [(u6.l.toArray,51)] rfl ?_;have L1:=K1.o.lt;have L2:=K2.o.lt;have L3:=wo.o.size;rintro W2 ⟨k3,hb⟩;have hb:Below W1.heap.size W1 W2:=hb;obtain ⟨K1,K2,RA⟩:=bG hb K1 K2 RA;have rM:=hbt wo hb;have K3:=hid k3;clear k3 hb;have rV:=K1.o.cell (i:=1) rfl;go_wp2_with fail
 with_reducible refine(C2.o _).mono ?_
 rintro e W3 ⟨w9,rfl,sw,hb⟩;clear rV;obtain ⟨K1,K2,K3,RA⟩:=aW hb K1 K2 K3 RA;have wu:=hbt rM hb;have RB:=hid sw;clear hb sw;go_upto_region 3 with fail
 refine az W3 [(w9.l.toArray,51)] rfl ?_;have L4:=K1.o.lt;have L5:=K2.o.lt;have L6:=K3.o.lt;have L7:=wu.o.size;rintro W4 ⟨k4,hb⟩;have hb:Below W3.heap.size W3 W4:=hb;obtain ⟨K2,K3,RA,RB⟩:=aW hb K2 K3 RA RB;have r9:=hbt wu hb;have K4:=hid k4;clear k4 hb;go_wp2_with fail
 refine aF (fun a0 a' V=>a'=⟨putL [(20,u6.v),(21,w9.v),(22,Qii u6 w9),(23,.bool true),(24,.bool true),(25,.bool false),(26,.bool false),(27,.bool false),(28,undef),(29,undef),(30,undef),(31,undef),(32,.bool false),(0,(.agg #[.string l,.string u])),(3,.bool false)] a0.tmps,a0.defers⟩∧Below w.heap.size w V∧SBk V (w.heap.size+1) (Lii u6 w9).toArray 64∧FQ V u6 xa∧FQ V w9 xb) ?_ ?_
 · have hd:=(Below.refl W4.heap.size W4).drew
   refine bK (by kernel_rfl) 14 1 (fun i=>[20,21,22,23,24,25,26,27,28,29,30,31,32,0].getD i 0) (RelR (List.map Rel.val [u6.v,w9.v,Qii u6 w9,.bool true,.bool true,.bool false,.bool false,.bool false,undef,undef,undef,undef,.bool false]++[Rel.blk (w.heap.size+1) (Lii u6 w9).toArray 64])) (fun W=>Below w.heap.size w W∧(∃ cs:Array Value,cs.size=6∧bF cs=true∧SBk W (w.heap.size+1) cs 64)∧SBk W W1.heap.size u6.l.toArray 51∧SBk W W3.heap.size w9.l.toArray 51∧FQ W u6 xa∧FQ W w9 xb) (fun _ a=>a.tmps[0]? = some (.agg #[.string l,.string u])) (by kernel_rfl) (by kernel_rfl) (by kernel_rfl) rfl ⟨r9.o.trans (hd.mono r9.o.size),⟨_,rfl,by simp[bF],K2.o.below hd⟩,K3.o.below hd,K4.o.below hd,RA.o.below hd,RB.o.below hd⟩ ?_ ?_
   · intro si a W i hI hD hrd him
     obtain ⟨HI,HD,Hr⟩:=ak hI hD hrd;clear hI hrd hD hd;obtain⟨y2,y4,y5⟩:=HI.o.s3 2 4 5;obtain⟨y6,y7⟩:=HI.o.s2 6 7;obtain⟨HW1,HW2,HW3,HW4,HF1,HF2⟩:=HI.o.world;obtain⟨d0,d1,d2⟩:=cells3 HW3;obtain⟨e0,e1,e2⟩:=cells3 HW4;obtain ⟨HW1,HW2,HW3,HW4,HF1,HF2⟩:=cz HW1 HW2 HW3 HW4 HF1 HF2;obtain⟨X0,X1,X2,X3,X4,X5⟩:=HI.o.g6 0 20 1 21 2 22 3 23 4 24 5 25;obtain⟨X6,X7,X8,X9,X10,X11⟩:=HI.o.g6 6 26 7 27 8 28 9 29 10 30 11 31;have X12:=HI.o.rg 12 32 rfl
     match i,him,Hr with
     | 0,_,Hi|1,_,Hi|2,_,Hi =>
       try have x0:=X0.t Hi.o
       try dsimp only[QS.v,Qii]at x0
       try have x1:=X1.t Hi.o
       try dsimp only[QS.v,Qii]at x1
       refine aA rfl fun K' hK=>?_;go_simp;exact hK.o _ _ ⟨HI.o.pv Hi.o rfl,(dO (by decide)).trans HD.o⟩
     | 3,_,Hi|4,_,Hi|5,_,Hi|6,_,Hi|7,_,Hi =>
       try have x3:=X3.t Hi.o
       try dsimp only[QS.v,Qii]at x3
       try have x4:=X4.t Hi.o
       try dsimp only[QS.v,Qii]at x4
       try have x5:=X5.t Hi.o
       try dsimp only[QS.v,Qii]at x5
       try have x6:=X6.t Hi.o
       try dsimp only[QS.v,Qii]at x6
       refine aA rfl fun K' hK=>?_;go_simp;exact hK.o _ _ ⟨HI.o.pv Hi.o rfl,(dO (by decide)).trans HD.o⟩
     | 8,_,Hi|9,_,Hi|10,_,Hi|11,_,Hi =>
       try have x7:=X7.t Hi.o
       try dsimp only[QS.v,Qii]at x7
       refine aA rfl fun K' hK=>?_;go_simp;exact hK.o _ _ ⟨HI.o.pv Hi.o rfl,(dO (by decide)).trans HD.o⟩
     | 12,_,Hi =>
       try have x7:=X7.t Hi.o
       try dsimp only[QS.v,Qii]at x7
       try have x11:=X11.t Hi.o
       try dsimp only[QS.v,Qii]at x11
       refine aA rfl fun K' hK=>?_;go_simp;exact hK.o _ _ ⟨HI.o.pv Hi.o rfl,(dO (by decide)).trans HD.o⟩
     | 13,_,Hi =>
       have x2:a.tmps[22]? = some (.agg (Lii u6 w9).toArray):=X2.q Hi.o;obtain⟨cs0,hc0,hn0,hk0⟩:=HW2.o;refine aA rfl fun K' hK=>?_;change Oper.wp _ _ _ _ _ _;refine wp_store_row _ _ _ rfl (w.heap.size+1) (Lii u6 w9).toArray (kr y2) (kr x2) _ _ hk0 (ou 6 rfl (by kernel_rfl)) (by rw[hc0];rfl) (by simp[Value.oneCell',Lii]) ?_;have hs:=(jE (vs:=Lii u6 w9) hk0 (by rw[hc0];rfl)).symm;have hp:(Lii u6 w9).all aY=true:=by simp[aY,Lii]
       refine hK.o _ _ ⟨RInv.stored HI.o rfl Hi.o ⟨_,HD.o,SBk.row hk0 _⟩ ⟨oP HW1.o _ (by omega),⟨_,rfl,by simp[bF,Lii],SBk.row hk0 _⟩,?_,?_,?_,?_⟩,HD.o⟩
       · exact(setRow_other _ _ _ _ (by have:=L2;have:=wo.o.size;omega)).trans HW3.o
       · exact(setRow_other _ _ _ _ (by have:=L5;have:=wu.o.size;omega)).trans HW4.o
       · rw[hs];exact eu _ 0 HF1.o hk0 hn0 hp
       · rw[hs];exact eu _ 0 HF2.o hk0 hn0 hp
     | n+14,h,_=>exact absurd h (by omega)
   · intro si a W hI hD ww
     obtain ⟨HI,HA⟩:=aD hI ww;obtain⟨_,_,hblk⟩:=hI.slots 13 (by decide) (ww 13 (by decide));have hblk:=hid (show SBk W (w.heap.size+1) (Lii u6 w9).toArray 64 from hblk);obtain⟨hw1,_,_,_,hf1,hf2⟩:=hI.world;obtain ⟨HW1,HF1,HF2⟩:=ak hw1 hf1 hf2;clear hI ww hw1 hf1 hf2;have x12:a.tmps[32]? = some (.bool false):=HI.o.sx HA.o 12;have EA:=hid (HI.o.finx (L:=[(20,u6.v),(21,w9.v),(22,Qii u6 w9),(23,.bool true),(24,.bool true),(25,.bool false),(26,.bool false),(27,.bool false),(28,undef),(29,undef),(30,undef),(31,undef),(32,.bool false),(0,(.agg #[.string l,.string u]))]) ⟨HI.o.sx HA.o 0,HI.o.sx HA.o 1,HI.o.sx HA.o 2,HI.o.sx HA.o 3,HI.o.sx HA.o 4,HI.o.sx HA.o 5,HI.o.sx HA.o 6,HI.o.sx HA.o 7,HI.o.sx HA.o 8,HI.o.sx HA.o 9,HI.o.sx HA.o 10,HI.o.sx HA.o 11,HI.o.sx HA.o 12,hD,trivial⟩ rfl);refine bz (t:=0) ?_;refine aA rfl fun K' hK=>?_;go_simp;refine hK.o _ _ ?_;clear hK;refine bi ?_;exact⟨rfl,nG EA.o rfl,HW1.o,hblk.o,HF1.o,HF2.o⟩
 rintro a' W5 ⟨rfl,z0,z1,z2,z3⟩;obtain ⟨p8,K2,RA,RB⟩:=aM z0 z1 z2 z3;clear z0 z1 z2 z3;simp only[putL,List.setIfInBounds_toArray,List.set_cons_zero,List.set_cons_succ];go_wp2;obtain⟨d0,d1,d2,d3,d4,d5⟩:=z2a K2.o;exact bodyPost_ret (v:=.tuple #[.agg (Lii u6 w9).toArray,.bool false]) (by simp[Lii,results,Tryz.results35,go_sem,d0,d1,d2,d3,d4,d5]) rfl ⟨_,_,rfl,RA.o,RB.o,p8.o⟩
theorem z1z (l u:ByteArray)(xa xb:Rat)(k:Int)(b:Bool)  (w:World)(hk:decide (k≤0)=b)(h1:KSb 22 (.string l) xa true)(h2:KSb 22 (.string u) xb true)(h3:KP2 27 xa xb (.int .i64 k))  :
 Calls Tryz.prog 35 #[.agg #[.string l,.string u]] w (RIb w xa xb b):=by
 obtain ⟨C1,C2,C3⟩:=ak h1 h2 h3;have hkk:=hk;clear hk h1 h2 h3;go_enter Tryz.func35,Tryz.ntmps35
 go_upto_region 1 with fail
 refine az w [(#[.string l,.string u],24),(#[.bool false,.slice none 0 0,.slice none 0 0,.bool false,.slice none 0 0,.slice none 0 0],64)] rfl ?_;rintro W0 ⟨k1,k2,hb⟩;have rq:=hid (show Below w.heap.size w W0 from hb);have K1:=hid k1;have K2:=hid k2;clear k1 k2 hb;have ru:=K1.o.cell (i:=0) rfl;go_wp2_with fail
 with_reducible refine(C1.o _).mono ?_
 rintro e W1 ⟨u6,rfl,sj,hb⟩;clear ru;obtain ⟨K1,K2⟩:=aH hb K1 K2;have wo:=hbt rq hb;have RA:=hid sj;clear hb sj;go_upto_region 2 with fail
 refine az W1 [(u6.l.toArray,51)] rfl ?_;have L1:=K1.o.lt;have L2:=K2.o.lt;have L3:=wo.o.size;rintro W2 ⟨k3,hb⟩;have hb:Below W1.heap.size W1 W2:=hb;obtain ⟨K1,K2,RA⟩:=bG hb K1 K2 RA;have rM:=hbt wo hb;have K3:=hid k3;clear k3 hb;have rV:=K1.o.cell (i:=1) rfl;go_wp2_with fail
 with_reducible refine(C2.o _).mono ?_
 rintro e W3 ⟨w9,rfl,sw,hb⟩;clear rV;obtain ⟨K1,K2,K3,RA⟩:=aW hb K1 K2 K3 RA;have wu:=hbt rM hb;have RB:=hid sw;clear hb sw;go_upto_region 3 with fail
 refine az W3 [(w9.l.toArray,51)] rfl ?_;have L4:=K1.o.lt;have L5:=K2.o.lt;have L6:=K3.o.lt;have L7:=wu.o.size;rintro W4 ⟨k4,hb⟩;have hb:Below W3.heap.size W3 W4:=hb;obtain ⟨K2,K3,RA,RB⟩:=aW hb K2 K3 RA RB;have r9:=hbt wu hb;have K4:=hid k4;clear k4 hb;go_wp2_with fail
 refine aF (fun a0 a' V=>a'=⟨putL [(20,u6.v),(21,w9.v),(22,Qii u6 w9),(23,.bool true),(24,.bool true),(25,.bool true),(26,.bool true),(27,.bool true),(28,u6.v),(29,w9.v),(30,.int .i64 k),(31,.bool b),(32,.bool b),(0,(.agg #[.string l,.string u])),(3,.bool b)] a0.tmps,a0.defers⟩∧Below w.heap.size w V∧SBk V (w.heap.size+1) (Lii u6 w9).toArray 64∧FQ V u6 xa∧FQ V w9 xb) ?_ ?_
 · have hd:=(Below.refl W4.heap.size W4).drew
   refine bK (by kernel_rfl) 14 1 (fun i=>[20,21,22,23,24,25,26,27,28,29,30,31,32,0].getD i 0) (RelR (List.map Rel.val [u6.v,w9.v,Qii u6 w9,.bool true,.bool true,.bool true,.bool true,.bool true,u6.v,w9.v,.int .i64 k,.bool b,.bool b]++[Rel.blk (w.heap.size+1) (Lii u6 w9).toArray 64])) (fun W=>Below w.heap.size w W∧(∃ cs:Array Value,cs.size=6∧bF cs=true∧SBk W (w.heap.size+1) cs 64)∧SBk W W1.heap.size u6.l.toArray 51∧SBk W W3.heap.size w9.l.toArray 51∧FQ W u6 xa∧FQ W w9 xb) (fun _ a=>a.tmps[0]? = some (.agg #[.string l,.string u])) (by kernel_rfl) (by kernel_rfl) (by kernel_rfl) rfl ⟨r9.o.trans (hd.mono r9.o.size),⟨_,rfl,by simp[bF],K2.o.below hd⟩,K3.o.below hd,K4.o.below hd,RA.o.below hd,RB.o.below hd⟩ ?_ ?_
   · intro si a W i hI hD hrd him
     obtain ⟨HI,HD,Hr⟩:=ak hI hD hrd;clear hI hrd hD hd;obtain⟨y2,y4,y5⟩:=HI.o.s3 2 4 5;obtain⟨y6,y7⟩:=HI.o.s2 6 7;obtain⟨HW1,HW2,HW3,HW4,HF1,HF2⟩:=HI.o.world;obtain⟨d0,d1,d2⟩:=cells3 HW3;obtain⟨e0,e1,e2⟩:=cells3 HW4;obtain ⟨HW1,HW2,HW3,HW4,HF1,HF2⟩:=cz HW1 HW2 HW3 HW4 HF1 HF2;obtain⟨X0,X1,X2,X3,X4,X5⟩:=HI.o.g6 0 20 1 21 2 22 3 23 4 24 5 25;obtain⟨X6,X7,X8,X9,X10,X11⟩:=HI.o.g6 6 26 7 27 8 28 9 29 10 30 11 31;have X12:=HI.o.rg 12 32 rfl
     match i,him,Hr with
     | 0,_,Hi|1,_,Hi|2,_,Hi =>
       try have x0:=X0.t Hi.o
       try dsimp only[QS.v,Qii]at x0
       try have x1:=X1.t Hi.o
       try dsimp only[QS.v,Qii]at x1
       refine aA rfl fun K' hK=>?_;go_simp;exact hK.o _ _ ⟨HI.o.pv Hi.o rfl,(dO (by decide)).trans HD.o⟩
     | 3,_,Hi|4,_,Hi|5,_,Hi|6,_,Hi|7,_,Hi =>
       try have x3:=X3.t Hi.o
       try dsimp only[QS.v,Qii]at x3
       try have x4:=X4.t Hi.o
       try dsimp only[QS.v,Qii]at x4
       try have x5:=X5.t Hi.o
       try dsimp only[QS.v,Qii]at x5
       try have x6:=X6.t Hi.o
       try dsimp only[QS.v,Qii]at x6
       refine aA rfl fun K' hK=>?_;go_simp;exact hK.o _ _ ⟨HI.o.pv Hi.o rfl,(dO (by decide)).trans HD.o⟩
     | 8,_,Hi|9,_,Hi =>
       try have x7:=X7.t Hi.o
       try dsimp only[QS.v,Qii]at x7
       refine aA rfl fun K' hK=>?_;go_simp;exact hK.o _ _ ⟨HI.o.pv Hi.o rfl,(dO (by decide)).trans HD.o⟩
     | 10,_,Hi =>
       have x7:=X7.q Hi.o;have x8:=X8.q Hi.o;have x9:=X9.q Hi.o;dsimp only[QS.v]at x8 x9;refine aA rfl fun K' hK=>?_;go_simp;with_reducible refine(C3.o _ _ _ HF1.o HF2.o).mono ?_
       rintro e W' ⟨rfl,hb⟩;obtain⟨cs0,hc0,hn0,hk0⟩:=HW2.o;refine hK.o _ _ ⟨RInv.put HI.o Hi.o (by decide) rfl (by simp) (by decide) rfl (fun j u k=>RelR.mono hb j u k) ⟨HW1.o.trans (hb.mono HW1.o.size),⟨cs0,hc0,hn0,hk0.below hb⟩,HW3.o.below hb,HW4.o.below hb,HF1.o.below hb,HF2.o.below hb⟩,(dO (by decide)).trans HD.o⟩
     | 11,_,Hi|12,_,Hi =>
       try have x7:=X7.t Hi.o
       try dsimp only[QS.v,Qii]at x7
       try have x10:=X10.t Hi.o
       try dsimp only[QS.v,Qii]at x10
       try have x11:=X11.t Hi.o
       try dsimp only[QS.v,Qii]at x11
       refine aA rfl fun K' hK=>?_;go_simp;exact hK.o _ _ ⟨HI.o.pv Hi.o rfl,(dO (by decide)).trans HD.o⟩
     | 13,_,Hi =>
       have x2:a.tmps[22]? = some (.agg (Lii u6 w9).toArray):=X2.q Hi.o;obtain⟨cs0,hc0,hn0,hk0⟩:=HW2.o;refine aA rfl fun K' hK=>?_;change Oper.wp _ _ _ _ _ _;refine wp_store_row _ _ _ rfl (w.heap.size+1) (Lii u6 w9).toArray (kr y2) (kr x2) _ _ hk0 (ou 6 rfl (by kernel_rfl)) (by rw[hc0];rfl) (by simp[Value.oneCell',Lii]) ?_;have hs:=(jE (vs:=Lii u6 w9) hk0 (by rw[hc0];rfl)).symm;have hp:(Lii u6 w9).all aY=true:=by simp[aY,Lii]
       refine hK.o _ _ ⟨RInv.stored HI.o rfl Hi.o ⟨_,HD.o,SBk.row hk0 _⟩ ⟨oP HW1.o _ (by omega),⟨_,rfl,by simp[bF,Lii],SBk.row hk0 _⟩,?_,?_,?_,?_⟩,HD.o⟩
       · exact(setRow_other _ _ _ _ (by have:=L2;have:=wo.o.size;omega)).trans HW3.o
       · exact(setRow_other _ _ _ _ (by have:=L5;have:=wu.o.size;omega)).trans HW4.o
       · rw[hs];exact eu _ 0 HF1.o hk0 hn0 hp
       · rw[hs];exact eu _ 0 HF2.o hk0 hn0 hp
     | n+14,h,_=>exact absurd h (by omega)
   · intro si a W hI hD ww
     obtain ⟨HI,HA⟩:=aD hI ww;obtain⟨_,_,hblk⟩:=hI.slots 13 (by decide) (ww 13 (by decide));have hblk:=hid (show SBk W (w.heap.size+1) (Lii u6 w9).toArray 64 from hblk);obtain⟨hw1,_,_,_,hf1,hf2⟩:=hI.world;obtain ⟨HW1,HF1,HF2⟩:=ak hw1 hf1 hf2;clear hI ww hw1 hf1 hf2;have x12:a.tmps[32]? = some (.bool b):=HI.o.sx HA.o 12;have EA:=hid (HI.o.finx (L:=[(20,u6.v),(21,w9.v),(22,Qii u6 w9),(23,.bool true),(24,.bool true),(25,.bool true),(26,.bool true),(27,.bool true),(28,u6.v),(29,w9.v),(30,.int .i64 k),(31,.bool b),(32,.bool b),(0,(.agg #[.string l,.string u]))]) ⟨HI.o.sx HA.o 0,HI.o.sx HA.o 1,HI.o.sx HA.o 2,HI.o.sx HA.o 3,HI.o.sx HA.o 4,HI.o.sx HA.o 5,HI.o.sx HA.o 6,HI.o.sx HA.o 7,HI.o.sx HA.o 8,HI.o.sx HA.o 9,HI.o.sx HA.o 10,HI.o.sx HA.o 11,HI.o.sx HA.o 12,hD,trivial⟩ rfl);refine bz (t:=0) ?_;refine aA rfl fun K' hK=>?_;go_simp;refine hK.o _ _ ?_;clear hK;refine bi ?_;exact⟨rfl,nG EA.o rfl,HW1.o,hblk.o,HF1.o,HF2.o⟩
 rintro a' W5 ⟨rfl,z0,z1,z2,z3⟩;obtain ⟨p8,K2,RA,RB⟩:=aM z0 z1 z2 z3;clear z0 z1 z2 z3;simp only[putL,List.setIfInBounds_toArray,List.set_cons_zero,List.set_cons_succ];go_wp2;obtain⟨d0,d1,d2,d3,d4,d5⟩:=z2a K2.o;exact bodyPost_ret (v:=.tuple #[.agg (Lii u6 w9).toArray,.bool b]) (by simp[Lii,results,Tryz.results35,go_sem,d0,d1,d2,d3,d4,d5]) rfl ⟨_,_,rfl,RA.o,RB.o,p8.o⟩
