/- texts -/
import Derived.Test.YtnpkghpfmieboaaGreatDoorDi
set_option maxRecDepth 100000
set_option maxHeartbeats 20000000
open Go.Lib (hid)
namespace Go.Proofs.YtnpkghpfmieboaaGreatDoor
open Go.RowKit Go.Gb
abbrev Qpl (qa qb qc qd:QS):List Value:=[.bool qa.b,.slice qa.a qa.n qa.c,.slice qa.e qa.m qa.d,.bool qb.b,.slice qb.a qb.n qb.c,.slice qb.e qb.m qb.d,.bool qc.b,.slice qc.a qc.n qc.c,.slice qc.e qc.m qc.d,.bool qd.b,.slice qd.a qd.n qd.c,.slice qd.e qd.m qd.d]
def Rel.blk (g:Nat) (cs:Array Value) (T:TypeId):Rel:=⟨fun _ W=>SBk W g cs T,fun _ _ _ h hb=>h.below hb⟩
theorem RInv.stored {ops:Array Oper}{m:Nat}{sl:Nat→Nat}{a0:Act}{vs:List Value}{r:Rel}{P:World→Prop}{si:Array Bool}{a:Act}{w w':World}(h:RInv ops m sl (RelR (List.map Rel.val vs++[r])) a0 P si a w)(hm:m=vs.length+1)(hi:vs.length∈Region.ready .any ops si)(hk:∃ v,a.tmps[sl vs.length]? = some v∧r.R v w')(hP:P w'):RInv ops m sl (RelR (List.map Rel.val vs++[r])) a0 P (si.setIfInBounds vs.length true) a w':=by
 refine⟨h.closed.set hi,by simpa using h.size,fun i hi' hl=>?_,h.rest,h.tsize,h.defers,hP⟩;have e2:(List.map Rel.val vs++[r]).getD vs.length (Rel.val undef)=r:=by simp[List.getD]
 rcases iJ hl with rfl|hl
 · obtain⟨v,h1,h2⟩:=hk
   refine⟨v,h1,?_⟩;unfold RelR
   rw[e2];exact h2
 · obtain⟨v,h1,h2⟩:=h.slots i hi' hl
   by_cases hiv:i<vs.length
   · refine⟨v,h1,?_⟩
     have e:(List.map Rel.val vs++[r]).getD i (Rel.val undef)=Rel.val vs[i]:=by simp[List.getD,List.getElem?_append_left,hiv]
     unfold RelR at h2 ⊢
     rw[e]at h2 ⊢;exact h2
   · have hie:i=vs.length:=by omega
     subst hie;have hu:=nH hi;rw[Array.getD_eq_getD_getElem?]at hl hu
     cases hq:si[vs.length]? with
     | none=>rw[hq]at hu;cases hu
     | some b=>rw[hq]at hl hu;simp at hl hu;rw[hl]at hu;cases hu
theorem z4h (n1 n2 n3 n4:ByteArray)(xa xb xc xd:Rat)(bz:Bool)(bd:Bool)  (w:World)  (h1:KVb 25 (.agg #[.string n1,.string n2,.string n3]) xa xb xc false)(h2:KSb 51 (.string n4) xd bd)(h3:KOut 38 xa xb xc (.bool bz))  :
 Calls Tryz.prog 24 #[.agg #[.string n1,.string n2,.string n3,.string n4]] w (RPb w xa xb xc xd (false)):=by
 obtain ⟨C1,C2,C3⟩:=ax h1 h2 h3;clear h1 h2 h3;go_enter Tryz.func24,Tryz.ntmps24
 go_upto_region 1 with fail
 refine ak w [(#[.string n1,.string n2,.string n3,.string n4],26),(#[.bool false,.slice none 0 0,.slice none 0 0,.bool false,.slice none 0 0,.slice none 0 0,.bool false,.slice none 0 0,.slice none 0 0,.bool false,.slice none 0 0,.slice none 0 0],61)] rfl ?_;rintro W0 ⟨k1,k2,hb⟩;have rV:=hid (show Below w.heap.size w W0 from hb);have K1:=hid k1;have K2:=hid k2;clear k1 k2 hb;obtain ⟨p8,pq,ol⟩:=ah K1.o rfl rfl rfl;go_wp2_with fail
 with_reducible refine(C1.o _).mono ?_
 rintro e W1 ⟨u6,w9,wo,rfl,sj,sw,r9,hb⟩;clear p8 pq ol;obtain ⟨K1,K2⟩:=aQ hb K1 K2;have ww:=hbt rV hb;obtain ⟨RA,RB,RC⟩:=ax sj sw r9;clear hb sj sw r9;go_upto_region 2 with fail
 refine ak W1 [(#[.bool u6.b,.slice u6.a u6.n u6.c,.slice u6.e u6.m u6.d,.bool w9.b,.slice w9.a w9.n w9.c,.slice w9.e w9.m w9.d,.bool wo.b,.slice wo.a wo.n wo.c,.slice wo.e wo.m wo.d],59)] rfl ?_;have L1:=K1.o.lt;have L2:=K2.o.lt;have L3:=ww.o.size;rintro W2 ⟨k3,hb⟩;have hb:Below W1.heap.size W1 W2:=hb;obtain ⟨K1,K2,RA,RB,RC⟩:=bG hb K1 K2 RA RB RC;have oM:=hbt ww hb;have K3:=hid k3;clear k3 hb;have oV:=K1.o.cell (i:=3) rfl;go_wp2_with fail
 with_reducible refine(C2.o _).mono ?_
 rintro e W3 ⟨wu,rfl,rf,hb⟩;clear oV;obtain ⟨K1,K2,K3,RA,RB,RC⟩:=cu hb K1 K2 K3 RA RB RC;have wy:=hbt oM hb;have RD:=hid rf;clear hb rf;go_upto_region 3 with fail
 refine ak W3 [(#[.bool wu.b,.slice wu.a wu.n wu.c,.slice wu.e wu.m wu.d],57)] rfl ?_;have L4:=K1.o.lt;have L5:=K2.o.lt;have L6:=K3.o.lt;have L7:=wy.o.size;rintro W4 ⟨k4,hb⟩;have hb:Below W3.heap.size W3 W4:=hb;obtain ⟨K2,K3,RA,RB,RC,RD⟩:=cu hb K2 K3 RA RB RC RD;have rM:=hbt wy hb;have K4:=hid k4;clear k4 hb;go_wp2_with fail
 refine ay (fun a0 a' V=>a'=⟨aR [(20,Qvv u6 w9 wo),(21,wu.v),(22,Qpp u6 w9 wo wu),(23,.bool false),(24,.bool false),(25,undef),(26,.bool false),(27,.bool false),(28,undef),(29,undef),(30,undef),(31,.bool false),(0,(.agg #[.string n1,.string n2,.string n3,.string n4])),(3,.bool (false))] a0.tmps,a0.defers⟩∧Below w.heap.size w V∧SBk V (w.heap.size+1) (Qpl u6 w9 wo wu).toArray 61∧FQ V u6 xa∧FQ V w9 xb∧FQ V wo xc∧FQ V wu xd) ?_ ?_
 · have hd:=(Below.refl W4.heap.size W4).drew
   refine dR (by kernel_rfl) 13 1 (fun i=>[20,21,22,23,24,25,26,27,28,29,30,31,0].getD i 0) (RelR (List.map Rel.val [Qvv u6 w9 wo,wu.v,Qpp u6 w9 wo wu,.bool false,.bool false,undef,.bool false,.bool false,undef,undef,undef,.bool false]++[Rel.blk (w.heap.size+1) (Qpl u6 w9 wo wu).toArray 61])) (fun W=>Below w.heap.size w W∧(∃ cs:Array Value,cs.size=12∧bS cs=true∧SBk W (w.heap.size+1) cs 61)∧SBk W W1.heap.size (Lvv u6 w9 wo).toArray 59∧SBk W W3.heap.size wu.l.toArray 57∧FQ W u6 xa∧FQ W w9 xb∧FQ W wo xc∧FQ W wu xd) (fun _ a=>a.tmps[0]? = some (.agg #[.string n1,.string n2,.string n3,.string n4])) (by kernel_rfl) (by kernel_rfl) (by kernel_rfl) rfl ⟨rM.o.trans (hd.mono rM.o.size),⟨_,rfl,by simp[bS],K2.o.below hd⟩,K3.o.below hd,K4.o.below hd,RA.o.below hd,RB.o.below hd,RC.o.below hd,RD.o.below hd⟩ ?_ ?_
   · intro si a W i hI hD hrd him
     obtain ⟨HI,HD,Hr⟩:=ax hI hD hrd;clear hI hrd hD hd;obtain⟨y2,y4,y5⟩:=HI.o.s3 2 4 5;obtain⟨y6,y7⟩:=HI.o.s2 6 7;obtain⟨HW1,HW2,HW3,HW4,HF1,HF2,HF3,HF4⟩:=HI.o.world;obtain⟨d0,d1,d2,d3,d4,d5,d6,d7,d8⟩:=di HW3;obtain⟨e0,e1,e2⟩:=cells3 HW4;obtain ⟨HW1,HW2,HW3,HW4,HF1,HF2,HF3,HF4⟩:=iA HW1 HW2 HW3 HW4 HF1 HF2 HF3 HF4;obtain⟨X0,X1,X2,X3,X4,X5⟩:=HI.o.g6 0 20 1 21 2 22 3 23 4 24 5 25;obtain⟨X6,X7,X8,X9,X10,X11⟩:=HI.o.g6 6 26 7 27 8 28 9 29 10 30 11 31
     match i,him,Hr with
     | 0,_,Hi|1,_,Hi|2,_,Hi =>
       try have x0:=X0.t Hi.o
       try dsimp only[QS.v,Qvv]at x0
       try have x1:=X1.t Hi.o
       try dsimp only[QS.v,Qvv]at x1
       refine av rfl fun K' hK=>?_;go_simp;exact hK.o _ _ ⟨HI.o.pv Hi.o rfl,(dG (by decide)).trans HD.o⟩
     | 3,_,Hi|4,_,Hi|5,_,Hi|6,_,Hi|7,_,Hi =>
       try have x3:=X3.t Hi.o
       try dsimp only[QS.v,Qvv]at x3
       try have x4:=X4.t Hi.o
       try dsimp only[QS.v,Qvv]at x4
       try have x5:=X5.t Hi.o
       try dsimp only[QS.v,Qvv]at x5
       try have x6:=X6.t Hi.o
       try dsimp only[QS.v,Qvv]at x6
       refine av rfl fun K' hK=>?_;go_simp;exact hK.o _ _ ⟨HI.o.pv Hi.o rfl,(dG (by decide)).trans HD.o⟩
     | 8,_,Hi|9,_,Hi =>
       try have x7:=X7.t Hi.o
       try dsimp only[QS.v,Qvv]at x7
       try have x8:=X8.t Hi.o
       try dsimp only[QS.v,Qvv]at x8
       refine av rfl fun K' hK=>?_;go_simp;exact hK.o _ _ ⟨HI.o.pv Hi.o rfl,(dG (by decide)).trans HD.o⟩
     | 10,_,Hi|11,_,Hi =>
       try have x7:=X7.t Hi.o
       try dsimp only[QS.v,Qvv]at x7
       try have x9:=X9.t Hi.o
       try dsimp only[QS.v,Qvv]at x9
       try have x10:=X10.t Hi.o
       try dsimp only[QS.v,Qvv]at x10
       refine av rfl fun K' hK=>?_;go_simp;exact hK.o _ _ ⟨HI.o.pv Hi.o rfl,(dG (by decide)).trans HD.o⟩
     | 12,_,Hi =>
       have x2:a.tmps[22]? = some (.agg (Qpl u6 w9 wo wu).toArray):=X2.q Hi.o;obtain⟨cs0,hc0,hn0,hk0⟩:=HW2.o;refine av rfl fun K' hK=>?_;change Oper.wp _ _ _ _ _ _;refine wp_store_row _ _ _ rfl (w.heap.size+1) (Qpl u6 w9 wo wu).toArray (jR y2) (jR x2) _ _ hk0 (oF 12 rfl (by kernel_rfl)) (by rw[hc0];rfl) (by simp[Value.oneCell',Qpl]) ?_;have hs:=(jr (vs:=Qpl u6 w9 wo wu) hk0 (by rw[hc0];rfl)).symm;have hp:(Qpl u6 w9 wo wu).all bi=true:=by simp[bi,Qpl]
       refine hK.o _ _ ⟨RInv.stored HI.o rfl Hi.o ⟨_,HD.o,SBk.row hk0 _⟩ ⟨oZ HW1.o _ (by omega),⟨_,rfl,by simp[bS,Qpl],SBk.row hk0 _⟩,?_,?_,?_,?_,?_,?_⟩,HD.o⟩
       · exact(setRow_other _ _ _ _ (by have:=L2;have:=ww.o.size;omega)).trans HW3.o
       · exact(setRow_other _ _ _ _ (by have:=L5;have:=wy.o.size;omega)).trans HW4.o
       · rw[hs];exact bE _ 0 HF1.o hk0 hn0 hp
       · rw[hs];exact bE _ 0 HF2.o hk0 hn0 hp
       · rw[hs];exact bE _ 0 HF3.o hk0 hn0 hp
       · rw[hs];exact bE _ 0 HF4.o hk0 hn0 hp
     | n+13,h,_=>exact absurd h (by omega)
   · intro si a W hI hD wz
     obtain ⟨HI,HA⟩:=aD hI wz;obtain⟨_,_,hblk⟩:=hI.slots 12 (by decide) (wz 12 (by decide));have hblk:=hid (show SBk W (w.heap.size+1) (Qpl u6 w9 wo wu).toArray 61 from hblk);obtain⟨hw1,_,_,_,hf1,hf2,hf3,hf4⟩:=hI.world;obtain ⟨HW1,HF1,HF2,HF3,HF4⟩:=bA hw1 hf1 hf2 hf3 hf4;clear hI wz hw1 hf1 hf2 hf3 hf4;have x11:a.tmps[31]? = some (.bool false):=HI.o.sx HA.o 11;have EA:=hid (HI.o.finx (L:=[(20,Qvv u6 w9 wo),(21,wu.v),(22,Qpp u6 w9 wo wu),(23,.bool false),(24,.bool false),(25,undef),(26,.bool false),(27,.bool false),(28,undef),(29,undef),(30,undef),(31,.bool false),(0,(.agg #[.string n1,.string n2,.string n3,.string n4]))]) ⟨HI.o.sx HA.o 0,HI.o.sx HA.o 1,HI.o.sx HA.o 2,HI.o.sx HA.o 3,HI.o.sx HA.o 4,HI.o.sx HA.o 5,HI.o.sx HA.o 6,HI.o.sx HA.o 7,HI.o.sx HA.o 8,HI.o.sx HA.o 9,HI.o.sx HA.o 10,HI.o.sx HA.o 11,hD,trivial⟩ rfl);refine aH (t:=0) ?_;refine av rfl fun K' hK=>?_;go_simp;refine hK.o _ _ ?_;clear hK;refine aO ?_;exact⟨rfl,dZ EA.o rfl,HW1.o,hblk.o,HF1.o,HF2.o,HF3.o,HF4.o⟩
 rintro a' W5 ⟨rfl,z0,z1,z2,z3,z4,z5⟩;obtain ⟨ma,K2,RA,RB,RC,RD⟩:=cZ z0 z1 z2 z3 z4 z5;clear z0 z1 z2 z3 z4 z5;simp only[aR,List.setIfInBounds_toArray,List.set_cons_zero,List.set_cons_succ];go_wp2;obtain⟨d0,d1,d2,d3,d4,d5,d6,d7,d8,d9,d10,d11⟩:=oU K2.o;exact bodyPost_ret (v:=.tuple #[.agg (Qpl u6 w9 wo wu).toArray,.bool (false)]) (by simp[Qpl,results,Tryz.results24,go_sem,d0,d1,d2,d3,d4,d5,d6,d7,d8,d9,d10,d11]) rfl ⟨_,_,_,_,rfl,RA.o,RB.o,RC.o,RD.o,ma.o⟩
theorem z4g (n1 n2 n3 n4:ByteArray)(xa xb xc xd:Rat)(bz:Bool)  (w:World)  (h1:KVb 25 (.agg #[.string n1,.string n2,.string n3]) xa xb xc true)(h2:KSb 51 (.string n4) xd false)(h3:KOut 38 xa xb xc (.bool bz))  :
 Calls Tryz.prog 24 #[.agg #[.string n1,.string n2,.string n3,.string n4]] w (RPb w xa xb xc xd (false)):=by
 obtain ⟨C1,C2,C3⟩:=ax h1 h2 h3;clear h1 h2 h3;go_enter Tryz.func24,Tryz.ntmps24
 go_upto_region 1 with fail
 refine ak w [(#[.string n1,.string n2,.string n3,.string n4],26),(#[.bool false,.slice none 0 0,.slice none 0 0,.bool false,.slice none 0 0,.slice none 0 0,.bool false,.slice none 0 0,.slice none 0 0,.bool false,.slice none 0 0,.slice none 0 0],61)] rfl ?_;rintro W0 ⟨k1,k2,hb⟩;have rV:=hid (show Below w.heap.size w W0 from hb);have K1:=hid k1;have K2:=hid k2;clear k1 k2 hb;obtain ⟨p8,pq,ol⟩:=ah K1.o rfl rfl rfl;go_wp2_with fail
 with_reducible refine(C1.o _).mono ?_
 rintro e W1 ⟨u6,w9,wo,rfl,sj,sw,r9,hb⟩;clear p8 pq ol;obtain ⟨K1,K2⟩:=aQ hb K1 K2;have ww:=hbt rV hb;obtain ⟨RA,RB,RC⟩:=ax sj sw r9;clear hb sj sw r9;go_upto_region 2 with fail
 refine ak W1 [(#[.bool u6.b,.slice u6.a u6.n u6.c,.slice u6.e u6.m u6.d,.bool w9.b,.slice w9.a w9.n w9.c,.slice w9.e w9.m w9.d,.bool wo.b,.slice wo.a wo.n wo.c,.slice wo.e wo.m wo.d],59)] rfl ?_;have L1:=K1.o.lt;have L2:=K2.o.lt;have L3:=ww.o.size;rintro W2 ⟨k3,hb⟩;have hb:Below W1.heap.size W1 W2:=hb;obtain ⟨K1,K2,RA,RB,RC⟩:=bG hb K1 K2 RA RB RC;have oM:=hbt ww hb;have K3:=hid k3;clear k3 hb;have oV:=K1.o.cell (i:=3) rfl;go_wp2_with fail
 with_reducible refine(C2.o _).mono ?_
 rintro e W3 ⟨wu,rfl,rf,hb⟩;clear oV;obtain ⟨K1,K2,K3,RA,RB,RC⟩:=cu hb K1 K2 K3 RA RB RC;have wy:=hbt oM hb;have RD:=hid rf;clear hb rf;go_upto_region 3 with fail
 refine ak W3 [(#[.bool wu.b,.slice wu.a wu.n wu.c,.slice wu.e wu.m wu.d],57)] rfl ?_;have L4:=K1.o.lt;have L5:=K2.o.lt;have L6:=K3.o.lt;have L7:=wy.o.size;rintro W4 ⟨k4,hb⟩;have hb:Below W3.heap.size W3 W4:=hb;obtain ⟨K2,K3,RA,RB,RC,RD⟩:=cu hb K2 K3 RA RB RC RD;have rM:=hbt wy hb;have K4:=hid k4;clear k4 hb;go_wp2_with fail
 refine ay (fun a0 a' V=>a'=⟨aR [(20,Qvv u6 w9 wo),(21,wu.v),(22,Qpp u6 w9 wo wu),(23,.bool true),(24,.bool true),(25,.bool false),(26,.bool false),(27,.bool false),(28,undef),(29,undef),(30,undef),(31,.bool false),(0,(.agg #[.string n1,.string n2,.string n3,.string n4])),(3,.bool (false))] a0.tmps,a0.defers⟩∧Below w.heap.size w V∧SBk V (w.heap.size+1) (Qpl u6 w9 wo wu).toArray 61∧FQ V u6 xa∧FQ V w9 xb∧FQ V wo xc∧FQ V wu xd) ?_ ?_
 · have hd:=(Below.refl W4.heap.size W4).drew
   refine dR (by kernel_rfl) 13 1 (fun i=>[20,21,22,23,24,25,26,27,28,29,30,31,0].getD i 0) (RelR (List.map Rel.val [Qvv u6 w9 wo,wu.v,Qpp u6 w9 wo wu,.bool true,.bool true,.bool false,.bool false,.bool false,undef,undef,undef,.bool false]++[Rel.blk (w.heap.size+1) (Qpl u6 w9 wo wu).toArray 61])) (fun W=>Below w.heap.size w W∧(∃ cs:Array Value,cs.size=12∧bS cs=true∧SBk W (w.heap.size+1) cs 61)∧SBk W W1.heap.size (Lvv u6 w9 wo).toArray 59∧SBk W W3.heap.size wu.l.toArray 57∧FQ W u6 xa∧FQ W w9 xb∧FQ W wo xc∧FQ W wu xd) (fun _ a=>a.tmps[0]? = some (.agg #[.string n1,.string n2,.string n3,.string n4])) (by kernel_rfl) (by kernel_rfl) (by kernel_rfl) rfl ⟨rM.o.trans (hd.mono rM.o.size),⟨_,rfl,by simp[bS],K2.o.below hd⟩,K3.o.below hd,K4.o.below hd,RA.o.below hd,RB.o.below hd,RC.o.below hd,RD.o.below hd⟩ ?_ ?_
   · intro si a W i hI hD hrd him
     obtain ⟨HI,HD,Hr⟩:=ax hI hD hrd;clear hI hrd hD hd;obtain⟨y2,y4,y5⟩:=HI.o.s3 2 4 5;obtain⟨y6,y7⟩:=HI.o.s2 6 7;obtain⟨HW1,HW2,HW3,HW4,HF1,HF2,HF3,HF4⟩:=HI.o.world;obtain⟨d0,d1,d2,d3,d4,d5,d6,d7,d8⟩:=di HW3;obtain⟨e0,e1,e2⟩:=cells3 HW4;obtain ⟨HW1,HW2,HW3,HW4,HF1,HF2,HF3,HF4⟩:=iA HW1 HW2 HW3 HW4 HF1 HF2 HF3 HF4;obtain⟨X0,X1,X2,X3,X4,X5⟩:=HI.o.g6 0 20 1 21 2 22 3 23 4 24 5 25;obtain⟨X6,X7,X8,X9,X10,X11⟩:=HI.o.g6 6 26 7 27 8 28 9 29 10 30 11 31
     match i,him,Hr with
     | 0,_,Hi|1,_,Hi|2,_,Hi =>
       try have x0:=X0.t Hi.o
       try dsimp only[QS.v,Qvv]at x0
       try have x1:=X1.t Hi.o
       try dsimp only[QS.v,Qvv]at x1
       refine av rfl fun K' hK=>?_;go_simp;exact hK.o _ _ ⟨HI.o.pv Hi.o rfl,(dG (by decide)).trans HD.o⟩
     | 3,_,Hi|4,_,Hi|5,_,Hi|6,_,Hi|7,_,Hi =>
       try have x3:=X3.t Hi.o
       try dsimp only[QS.v,Qvv]at x3
       try have x4:=X4.t Hi.o
       try dsimp only[QS.v,Qvv]at x4
       try have x5:=X5.t Hi.o
       try dsimp only[QS.v,Qvv]at x5
       try have x6:=X6.t Hi.o
       try dsimp only[QS.v,Qvv]at x6
       refine av rfl fun K' hK=>?_;go_simp;exact hK.o _ _ ⟨HI.o.pv Hi.o rfl,(dG (by decide)).trans HD.o⟩
     | 8,_,Hi|9,_,Hi =>
       try have x7:=X7.t Hi.o
       try dsimp only[QS.v,Qvv]at x7
       try have x8:=X8.t Hi.o
       try dsimp only[QS.v,Qvv]at x8
       refine av rfl fun K' hK=>?_;go_simp;exact hK.o _ _ ⟨HI.o.pv Hi.o rfl,(dG (by decide)).trans HD.o⟩
     | 10,_,Hi|11,_,Hi =>
       try have x7:=X7.t Hi.o
       try dsimp only[QS.v,Qvv]at x7
       try have x9:=X9.t Hi.o
       try dsimp only[QS.v,Qvv]at x9
       try have x10:=X10.t Hi.o
       try dsimp only[QS.v,Qvv]at x10
       refine av rfl fun K' hK=>?_;go_simp;exact hK.o _ _ ⟨HI.o.pv Hi.o rfl,(dG (by decide)).trans HD.o⟩
     | 12,_,Hi =>
       have x2:a.tmps[22]? = some (.agg (Qpl u6 w9 wo wu).toArray):=X2.q Hi.o;obtain⟨cs0,hc0,hn0,hk0⟩:=HW2.o;refine av rfl fun K' hK=>?_;change Oper.wp _ _ _ _ _ _;refine wp_store_row _ _ _ rfl (w.heap.size+1) (Qpl u6 w9 wo wu).toArray (jR y2) (jR x2) _ _ hk0 (oF 12 rfl (by kernel_rfl)) (by rw[hc0];rfl) (by simp[Value.oneCell',Qpl]) ?_;have hs:=(jr (vs:=Qpl u6 w9 wo wu) hk0 (by rw[hc0];rfl)).symm;have hp:(Qpl u6 w9 wo wu).all bi=true:=by simp[bi,Qpl]
       refine hK.o _ _ ⟨RInv.stored HI.o rfl Hi.o ⟨_,HD.o,SBk.row hk0 _⟩ ⟨oZ HW1.o _ (by omega),⟨_,rfl,by simp[bS,Qpl],SBk.row hk0 _⟩,?_,?_,?_,?_,?_,?_⟩,HD.o⟩
       · exact(setRow_other _ _ _ _ (by have:=L2;have:=ww.o.size;omega)).trans HW3.o
       · exact(setRow_other _ _ _ _ (by have:=L5;have:=wy.o.size;omega)).trans HW4.o
       · rw[hs];exact bE _ 0 HF1.o hk0 hn0 hp
       · rw[hs];exact bE _ 0 HF2.o hk0 hn0 hp
       · rw[hs];exact bE _ 0 HF3.o hk0 hn0 hp
       · rw[hs];exact bE _ 0 HF4.o hk0 hn0 hp
     | n+13,h,_=>exact absurd h (by omega)
   · intro si a W hI hD wz
     obtain ⟨HI,HA⟩:=aD hI wz;obtain⟨_,_,hblk⟩:=hI.slots 12 (by decide) (wz 12 (by decide));have hblk:=hid (show SBk W (w.heap.size+1) (Qpl u6 w9 wo wu).toArray 61 from hblk);obtain⟨hw1,_,_,_,hf1,hf2,hf3,hf4⟩:=hI.world;obtain ⟨HW1,HF1,HF2,HF3,HF4⟩:=bA hw1 hf1 hf2 hf3 hf4;clear hI wz hw1 hf1 hf2 hf3 hf4;have x11:a.tmps[31]? = some (.bool false):=HI.o.sx HA.o 11;have EA:=hid (HI.o.finx (L:=[(20,Qvv u6 w9 wo),(21,wu.v),(22,Qpp u6 w9 wo wu),(23,.bool true),(24,.bool true),(25,.bool false),(26,.bool false),(27,.bool false),(28,undef),(29,undef),(30,undef),(31,.bool false),(0,(.agg #[.string n1,.string n2,.string n3,.string n4]))]) ⟨HI.o.sx HA.o 0,HI.o.sx HA.o 1,HI.o.sx HA.o 2,HI.o.sx HA.o 3,HI.o.sx HA.o 4,HI.o.sx HA.o 5,HI.o.sx HA.o 6,HI.o.sx HA.o 7,HI.o.sx HA.o 8,HI.o.sx HA.o 9,HI.o.sx HA.o 10,HI.o.sx HA.o 11,hD,trivial⟩ rfl);refine aH (t:=0) ?_;refine av rfl fun K' hK=>?_;go_simp;refine hK.o _ _ ?_;clear hK;refine aO ?_;exact⟨rfl,dZ EA.o rfl,HW1.o,hblk.o,HF1.o,HF2.o,HF3.o,HF4.o⟩
 rintro a' W5 ⟨rfl,z0,z1,z2,z3,z4,z5⟩;obtain ⟨ma,K2,RA,RB,RC,RD⟩:=cZ z0 z1 z2 z3 z4 z5;clear z0 z1 z2 z3 z4 z5;simp only[aR,List.setIfInBounds_toArray,List.set_cons_zero,List.set_cons_succ];go_wp2;obtain⟨d0,d1,d2,d3,d4,d5,d6,d7,d8,d9,d10,d11⟩:=oU K2.o;exact bodyPost_ret (v:=.tuple #[.agg (Qpl u6 w9 wo wu).toArray,.bool (false)]) (by simp[Qpl,results,Tryz.results24,go_sem,d0,d1,d2,d3,d4,d5,d6,d7,d8,d9,d10,d11]) rfl ⟨_,_,_,_,rfl,RA.o,RB.o,RC.o,RD.o,ma.o⟩
theorem z4f (n1 n2 n3 n4:ByteArray)(xa xb xc xd:Rat)(bz:Bool)  (w:World)  (h1:KVb 25 (.agg #[.string n1,.string n2,.string n3]) xa xb xc true)(h2:KSb 51 (.string n4) xd true)(h3:KOut 38 xa xb xc (.bool bz))  :
 Calls Tryz.prog 24 #[.agg #[.string n1,.string n2,.string n3,.string n4]] w (RPb w xa xb xc xd (!bz)):=by
 obtain ⟨C1,C2,C3⟩:=ax h1 h2 h3;clear h1 h2 h3;go_enter Tryz.func24,Tryz.ntmps24
 go_upto_region 1 with fail
 refine ak w [(#[.string n1,.string n2,.string n3,.string n4],26),(#[.bool false,.slice none 0 0,.slice none 0 0,.bool false,.slice none 0 0,.slice none 0 0,.bool false,.slice none 0 0,.slice none 0 0,.bool false,.slice none 0 0,.slice none 0 0],61)] rfl ?_;rintro W0 ⟨k1,k2,hb⟩;have rV:=hid (show Below w.heap.size w W0 from hb);have K1:=hid k1;have K2:=hid k2;clear k1 k2 hb;obtain ⟨p8,pq,ol⟩:=ah K1.o rfl rfl rfl;go_wp2_with fail
 with_reducible refine(C1.o _).mono ?_
 rintro e W1 ⟨u6,w9,wo,rfl,sj,sw,r9,hb⟩;clear p8 pq ol;obtain ⟨K1,K2⟩:=aQ hb K1 K2;have ww:=hbt rV hb;obtain ⟨RA,RB,RC⟩:=ax sj sw r9;clear hb sj sw r9;go_upto_region 2 with fail
 refine ak W1 [(#[.bool u6.b,.slice u6.a u6.n u6.c,.slice u6.e u6.m u6.d,.bool w9.b,.slice w9.a w9.n w9.c,.slice w9.e w9.m w9.d,.bool wo.b,.slice wo.a wo.n wo.c,.slice wo.e wo.m wo.d],59)] rfl ?_;have L1:=K1.o.lt;have L2:=K2.o.lt;have L3:=ww.o.size;rintro W2 ⟨k3,hb⟩;have hb:Below W1.heap.size W1 W2:=hb;obtain ⟨K1,K2,RA,RB,RC⟩:=bG hb K1 K2 RA RB RC;have oM:=hbt ww hb;have K3:=hid k3;clear k3 hb;have oV:=K1.o.cell (i:=3) rfl;go_wp2_with fail
 with_reducible refine(C2.o _).mono ?_
 rintro e W3 ⟨wu,rfl,rf,hb⟩;clear oV;obtain ⟨K1,K2,K3,RA,RB,RC⟩:=cu hb K1 K2 K3 RA RB RC;have wy:=hbt oM hb;have RD:=hid rf;clear hb rf;go_upto_region 3 with fail
 refine ak W3 [(#[.bool wu.b,.slice wu.a wu.n wu.c,.slice wu.e wu.m wu.d],57)] rfl ?_;have L4:=K1.o.lt;have L5:=K2.o.lt;have L6:=K3.o.lt;have L7:=wy.o.size;rintro W4 ⟨k4,hb⟩;have hb:Below W3.heap.size W3 W4:=hb;obtain ⟨K2,K3,RA,RB,RC,RD⟩:=cu hb K2 K3 RA RB RC RD;have rM:=hbt wy hb;have K4:=hid k4;clear k4 hb;go_wp2_with fail
 refine ay (fun a0 a' V=>a'=⟨aR [(20,Qvv u6 w9 wo),(21,wu.v),(22,Qpp u6 w9 wo wu),(23,.bool true),(24,.bool true),(25,.bool true),(26,.bool true),(27,.bool true),(28,Qvv u6 w9 wo),(29,.bool bz),(30,.bool (!bz)),(31,.bool (!bz)),(0,(.agg #[.string n1,.string n2,.string n3,.string n4])),(3,.bool (!bz))] a0.tmps,a0.defers⟩∧Below w.heap.size w V∧SBk V (w.heap.size+1) (Qpl u6 w9 wo wu).toArray 61∧FQ V u6 xa∧FQ V w9 xb∧FQ V wo xc∧FQ V wu xd) ?_ ?_
 · have hd:=(Below.refl W4.heap.size W4).drew
   refine dR (by kernel_rfl) 13 1 (fun i=>[20,21,22,23,24,25,26,27,28,29,30,31,0].getD i 0) (RelR (List.map Rel.val [Qvv u6 w9 wo,wu.v,Qpp u6 w9 wo wu,.bool true,.bool true,.bool true,.bool true,.bool true,Qvv u6 w9 wo,.bool bz,.bool (!bz),.bool (!bz)]++[Rel.blk (w.heap.size+1) (Qpl u6 w9 wo wu).toArray 61])) (fun W=>Below w.heap.size w W∧(∃ cs:Array Value,cs.size=12∧bS cs=true∧SBk W (w.heap.size+1) cs 61)∧SBk W W1.heap.size (Lvv u6 w9 wo).toArray 59∧SBk W W3.heap.size wu.l.toArray 57∧FQ W u6 xa∧FQ W w9 xb∧FQ W wo xc∧FQ W wu xd) (fun _ a=>a.tmps[0]? = some (.agg #[.string n1,.string n2,.string n3,.string n4])) (by kernel_rfl) (by kernel_rfl) (by kernel_rfl) rfl ⟨rM.o.trans (hd.mono rM.o.size),⟨_,rfl,by simp[bS],K2.o.below hd⟩,K3.o.below hd,K4.o.below hd,RA.o.below hd,RB.o.below hd,RC.o.below hd,RD.o.below hd⟩ ?_ ?_
   · intro si a W i hI hD hrd him
     obtain ⟨HI,HD,Hr⟩:=ax hI hD hrd;clear hI hrd hD hd;obtain⟨y2,y4,y5⟩:=HI.o.s3 2 4 5;obtain⟨y6,y7⟩:=HI.o.s2 6 7;obtain⟨HW1,HW2,HW3,HW4,HF1,HF2,HF3,HF4⟩:=HI.o.world;obtain⟨d0,d1,d2,d3,d4,d5,d6,d7,d8⟩:=di HW3;obtain⟨e0,e1,e2⟩:=cells3 HW4;obtain ⟨HW1,HW2,HW3,HW4,HF1,HF2,HF3,HF4⟩:=iA HW1 HW2 HW3 HW4 HF1 HF2 HF3 HF4;obtain⟨X0,X1,X2,X3,X4,X5⟩:=HI.o.g6 0 20 1 21 2 22 3 23 4 24 5 25;obtain⟨X6,X7,X8,X9,X10,X11⟩:=HI.o.g6 6 26 7 27 8 28 9 29 10 30 11 31
     match i,him,Hr with
     | 0,_,Hi|1,_,Hi|2,_,Hi =>
       try have x0:=X0.t Hi.o
       try dsimp only[QS.v,Qvv]at x0
       try have x1:=X1.t Hi.o
       try dsimp only[QS.v,Qvv]at x1
       refine av rfl fun K' hK=>?_;go_simp;exact hK.o _ _ ⟨HI.o.pv Hi.o rfl,(dG (by decide)).trans HD.o⟩
     | 3,_,Hi|4,_,Hi|5,_,Hi|6,_,Hi|7,_,Hi =>
       try have x3:=X3.t Hi.o
       try dsimp only[QS.v,Qvv]at x3
       try have x4:=X4.t Hi.o
       try dsimp only[QS.v,Qvv]at x4
       try have x5:=X5.t Hi.o
       try dsimp only[QS.v,Qvv]at x5
       try have x6:=X6.t Hi.o
       try dsimp only[QS.v,Qvv]at x6
       refine av rfl fun K' hK=>?_;go_simp;exact hK.o _ _ ⟨HI.o.pv Hi.o rfl,(dG (by decide)).trans HD.o⟩
     | 8,_,Hi =>
       try have x7:=X7.t Hi.o
       try dsimp only[QS.v,Qvv]at x7
       refine av rfl fun K' hK=>?_;go_simp;exact hK.o _ _ ⟨HI.o.pv Hi.o rfl,(dG (by decide)).trans HD.o⟩
     | 9,_,Hi =>
       have x7:=X7.q Hi.o;have x8:=X8.q Hi.o;dsimp only[Qvv]at x8;refine av rfl fun K' hK=>?_;go_simp;with_reducible refine(C3.o _ _ _ _ HF1.o HF2.o HF3.o).mono ?_
       rintro e W' ⟨rfl,hb⟩;obtain⟨cs0,hc0,hn0,hk0⟩:=HW2.o;refine hK.o _ _ ⟨RInv.put HI.o Hi.o (by decide) rfl (by simp) (by decide) rfl (fun j u k=>RelR.mono hb j u k) ⟨HW1.o.trans (hb.mono HW1.o.size),⟨cs0,hc0,hn0,hk0.below hb⟩,HW3.o.below hb,HW4.o.below hb,HF1.o.below hb,HF2.o.below hb,HF3.o.below hb,HF4.o.below hb⟩,(dG (by decide)).trans HD.o⟩
     | 10,_,Hi|11,_,Hi =>
       try have x7:=X7.t Hi.o
       try dsimp only[QS.v,Qvv]at x7
       try have x9:=X9.t Hi.o
       try dsimp only[QS.v,Qvv]at x9
       try have x10:=X10.t Hi.o
       try dsimp only[QS.v,Qvv]at x10
       refine av rfl fun K' hK=>?_;go_simp;exact hK.o _ _ ⟨HI.o.pv Hi.o rfl,(dG (by decide)).trans HD.o⟩
     | 12,_,Hi =>
       have x2:a.tmps[22]? = some (.agg (Qpl u6 w9 wo wu).toArray):=X2.q Hi.o;obtain⟨cs0,hc0,hn0,hk0⟩:=HW2.o;refine av rfl fun K' hK=>?_;change Oper.wp _ _ _ _ _ _;refine wp_store_row _ _ _ rfl (w.heap.size+1) (Qpl u6 w9 wo wu).toArray (jR y2) (jR x2) _ _ hk0 (oF 12 rfl (by kernel_rfl)) (by rw[hc0];rfl) (by simp[Value.oneCell',Qpl]) ?_;have hs:=(jr (vs:=Qpl u6 w9 wo wu) hk0 (by rw[hc0];rfl)).symm;have hp:(Qpl u6 w9 wo wu).all bi=true:=by simp[bi,Qpl]
       refine hK.o _ _ ⟨RInv.stored HI.o rfl Hi.o ⟨_,HD.o,SBk.row hk0 _⟩ ⟨oZ HW1.o _ (by omega),⟨_,rfl,by simp[bS,Qpl],SBk.row hk0 _⟩,?_,?_,?_,?_,?_,?_⟩,HD.o⟩
       · exact(setRow_other _ _ _ _ (by have:=L2;have:=ww.o.size;omega)).trans HW3.o
       · exact(setRow_other _ _ _ _ (by have:=L5;have:=wy.o.size;omega)).trans HW4.o
       · rw[hs];exact bE _ 0 HF1.o hk0 hn0 hp
       · rw[hs];exact bE _ 0 HF2.o hk0 hn0 hp
       · rw[hs];exact bE _ 0 HF3.o hk0 hn0 hp
       · rw[hs];exact bE _ 0 HF4.o hk0 hn0 hp
     | n+13,h,_=>exact absurd h (by omega)
   · intro si a W hI hD wz
     obtain ⟨HI,HA⟩:=aD hI wz;obtain⟨_,_,hblk⟩:=hI.slots 12 (by decide) (wz 12 (by decide));have hblk:=hid (show SBk W (w.heap.size+1) (Qpl u6 w9 wo wu).toArray 61 from hblk);obtain⟨hw1,_,_,_,hf1,hf2,hf3,hf4⟩:=hI.world;obtain ⟨HW1,HF1,HF2,HF3,HF4⟩:=bA hw1 hf1 hf2 hf3 hf4;clear hI wz hw1 hf1 hf2 hf3 hf4;have x11:a.tmps[31]? = some (.bool (!bz)):=HI.o.sx HA.o 11;have EA:=hid (HI.o.finx (L:=[(20,Qvv u6 w9 wo),(21,wu.v),(22,Qpp u6 w9 wo wu),(23,.bool true),(24,.bool true),(25,.bool true),(26,.bool true),(27,.bool true),(28,Qvv u6 w9 wo),(29,.bool bz),(30,.bool (!bz)),(31,.bool (!bz)),(0,(.agg #[.string n1,.string n2,.string n3,.string n4]))]) ⟨HI.o.sx HA.o 0,HI.o.sx HA.o 1,HI.o.sx HA.o 2,HI.o.sx HA.o 3,HI.o.sx HA.o 4,HI.o.sx HA.o 5,HI.o.sx HA.o 6,HI.o.sx HA.o 7,HI.o.sx HA.o 8,HI.o.sx HA.o 9,HI.o.sx HA.o 10,HI.o.sx HA.o 11,hD,trivial⟩ rfl);refine aH (t:=0) ?_;refine av rfl fun K' hK=>?_;go_simp;refine hK.o _ _ ?_;clear hK;refine aO ?_;exact⟨rfl,dZ EA.o rfl,HW1.o,hblk.o,HF1.o,HF2.o,HF3.o,HF4.o⟩
 rintro a' W5 ⟨rfl,z0,z1,z2,z3,z4,z5⟩;obtain ⟨ma,K2,RA,RB,RC,RD⟩:=cZ z0 z1 z2 z3 z4 z5;clear z0 z1 z2 z3 z4 z5;simp only[aR,List.setIfInBounds_toArray,List.set_cons_zero,List.set_cons_succ];go_wp2;obtain⟨d0,d1,d2,d3,d4,d5,d6,d7,d8,d9,d10,d11⟩:=oU K2.o;exact bodyPost_ret (v:=.tuple #[.agg (Qpl u6 w9 wo wu).toArray,.bool (!bz)]) (by simp[Qpl,results,Tryz.results24,go_sem,d0,d1,d2,d3,d4,d5,d6,d7,d8,d9,d10,d11]) rfl ⟨_,_,_,_,rfl,RA.o,RB.o,RC.o,RD.o,ma.o⟩
