/- texts -/
import Derived.Test.YtnpkghpfmieboaaGreatDoorDi
set_option maxRecDepth 100000
set_option maxHeartbeats 20000000
open Go.Lib (hid)
namespace Go.Proofs.YtnpkghpfmieboaaGreatDoor
open Go.RowKit Go.Gb
abbrev Qpl (qa qb qc qd:QS):List Value:=[.bool qa.b,.slice qa.a qa.n qa.c,.slice qa.e qa.m qa.d,.bool qb.b,.slice qb.a qb.n qb.c,.slice qb.e qb.m qb.d,.bool qc.b,.slice qc.a qc.n qc.c,.slice qc.e qc.m qc.d,.bool qd.b,.slice qd.a qd.n qd.c,.slice qd.e qd.m qd.d]
def Rel.blk (g:Nat) (cs:Array Value) (T:TypeId):Rel:=⟨fun _ W=>SBk W g cs T,fun _ _ _ h hb=>h.below hb⟩
theorem RInv.stored {ops:Array Oper}{m:Nat}{sl:Nat→Nat}{a0:Act}{vs:List Value}{r:Rel}{P:World→Prop}{si:Array Bool}{a:Act}{w w':World}(h:RInv ops m sl (RelR (List.map Rel.val vs++[r])) a0 P si a w)(hm:m=vs.length+1)(hi:vs.length∈Region.ready .any ops si)(hk:∃ v,a.tmps[sl vs.length]? = some v∧r.R v w')(hP:P w'):RInv ops m sl (RelR (List.map Rel.val vs++[r])) a0 P (si.setIfInBounds vs.length true) a w':=by
 refine⟨h.closed.set hi,by simpa using h.size,fun i hi' hl=>?_,h.rest,h.tsize,h.defers,hP⟩;have e2:(List.map Rel.val vs++[r]).getD vs.length (Rel.val undef)=r:=by simp[List.getD]
 rcases iJ hl with rfl|hl
 · obtain⟨v,h1,h2⟩:=hk
   refine⟨v,h1,?_⟩;unfold RelR
   rw[e2];exact h2
 · obtain⟨v,h1,h2⟩:=h.slots i hi' hl
   by_cases hiv:i<vs.length
   · refine⟨v,h1,?_⟩
     have e:(List.map Rel.val vs++[r]).getD i (Rel.val undef)=Rel.val vs[i]:=by simp[List.getD,List.getElem?_append_left,hiv]
     unfold RelR at h2 ⊢
     rw[e]at h2 ⊢;exact h2
   · have hie:i=vs.length:=by omega
     subst hie;have hu:=nH hi;rw[Array.getD_eq_getD_getElem?]at hl hu
     cases hq:si[vs.length]? with
     | none=>rw[hq]at hu;cases hu
     | some b=>rw[hq]at hl hu;simp at hl hu;rw[hl]at hu;cases hu
theorem z4h (n1 n2 n3 n4:ByteArray)(xa xb xc xd:Rat)(bz:Bool)(bd:Bool)  (w:World)  (h1:KVb 25 (.agg #[.string n1,.string n2,.string n3]) xa xb xc false)(h2:KSb 51 (.string n4) xd bd)(h3:KOut 38 xa xb xc (.bool bz))  :
 Calls Tryz.prog 24 #[.agg #[.string n1,.string n2,.string n3,.string n4]] w (RPb w xa xb xc xd (false)):=by
 obtain ⟨C1,C2,C3⟩:=ax h1 h2 h3;clear h1 h2 h3;go_enter Tryz.func24,Tryz.ntmps24
 go_upto_region 1 with fail
 refine ak w [(#[.string n1,.string n2,.string n3,.string n4],26),(#[.bool false,.slice none 0 0,.slice none 0 0,.bool false,.slice none 0 0,.slice none 0 0,.bool false,.slice none 0 0,.slice none 0 0,.bool false,.slice none 0 0,.slice none 0 0],61)] rfl ?_;rintro W0 ⟨k1,k2,hb⟩;have rV:=hid (show Below w.heap.size w W0 from hb);have K1:=hid k1;have K2:=hid k2;clear k1 k2 hb;obtain ⟨p8,pq,ol⟩:=ah K1.out rfl rfl rfl;go_wp2_with fail
 with_reducible refine(C1.out _).mono ?_
 rintro e W1 ⟨u6,w9,wo,rfl,sj,sw,r9,hb⟩;clear p8 pq ol;obtain ⟨K1,K2⟩:=aQ hb K1 K2;have ww:=hbt rV hb;obtain ⟨RA,RB,RC⟩:=ax sj sw r9;clear hb sj sw r9;go_upto_region 2 with fail
 refine ak W1 [(#[.bool u6.b,.slice u6.a u6.n u6.c,.slice u6.e u6.m u6.d,.bool w9.b,.slice w9.a w9.n w9.c,.slice w9.e w9.m w9.d,.bool wo.b,.slice wo.a wo.n wo.c,.slice wo.e wo.m wo.d],59)] rfl ?_;have L1:=K1.out.lt;have L2:=K2.out.lt;have L3:=ww.out.size;rintro W2 ⟨k3,hb⟩;have hb:Below W1.heap.size W1 W2:=hb;obtain ⟨K1,K2,RA,RB,RC⟩:=bG hb K1 K2 RA RB RC;have oM:=hbt ww hb;have K3:=hid k3;clear k3 hb;have oV:=K1.out.cell (i:=3) rfl;go_wp2_with fail
 with_reducible refine(C2.out _).mono ?_
 rintro e W3 ⟨wu,rfl,rf,hb⟩;clear oV;obtain ⟨K1,K2,K3,RA,RB,RC⟩:=cu hb K1 K2 K3 RA RB RC;have wy:=hbt oM hb;have RD:=hid rf;clear hb rf;go_upto_region 3 with fail
 refine ak W3 [(#[.bool wu.b,.slice wu.a wu.n wu.c,.slice wu.e wu.m wu.d],57)] rfl ?_;have L4:=K1.out.lt;have L5:=K2.out.lt;have L6:=K3.out.lt;have L7:=wy.out.size;rintro W4 ⟨k4,hb⟩;have hb:Below W3.heap.size W3 W4:=hb;obtain ⟨K2,K3,RA,RB,RC,RD⟩:=cu hb K2 K3 RA RB RC RD;have rM:=hbt wy hb;have K4:=hid k4;clear k4 hb;go_wp2_with fail
 refine ay (fun a0 a' V=>a'=⟨aR [(20,Qvv u6 w9 wo),(21,wu.v),(22,Qpp u6 w9 wo wu),(23,.bool false),(24,.bool false),(25,undef),(26,.bool false),(27,.bool false),(28,undef),(29,undef),(30,undef),(31,.bool false),(0,(.agg #[.string n1,.string n2,.string n3,.string n4])),(3,.bool (false))] a0.tmps,a0.defers⟩∧Below w.heap.size w V∧SBk V (w.heap.size+1) (Qpl u6 w9 wo wu).toArray 61∧FQ V u6 xa∧FQ V w9 xb∧FQ V wo xc∧FQ V wu xd) ?_ ?_
 · have hd:=(Below.refl W4.heap.size W4).drew
   refine dR (by kernel_rfl) 13 1 (fun i=>[20,21,22,23,24,25,26,27,28,29,30,31,0].getD i 0) (RelR (List.map Rel.val [Qvv u6 w9 wo,wu.v,Qpp u6 w9 wo wu,.bool false,.bool false,undef,.bool false,.bool false,undef,undef,undef,.bool false]++[Rel.blk (w.heap.size+1) (Qpl u6 w9 wo wu).toArray 61])) (fun W=>Below w.heap.size w W∧(∃ cs:Array Value,cs.size=12∧bS cs=true∧SBk W (w.heap.size+1) cs 61)∧SBk W W1.heap.size (Lvv u6 w9 wo).toArray 59∧SBk W W3.heap.size wu.l.toArray 57∧FQ W u6 xa∧FQ W w9 xb∧FQ W wo xc∧FQ W wu xd) (fun _ a=>a.tmps[0]? = some (.agg #[.string n1,.string n2,.string n3,.string n4])) (by kernel_rfl) (by kernel_rfl) (by kernel_rfl) rfl ⟨rM.out.trans (hd.mono rM.out.size),⟨_,rfl,by simp[bS],K2.out.below hd⟩,K3.out.below hd,K4.out.below hd,RA.out.below hd,RB.out.below hd,RC.out.below hd,RD.out.below hd⟩ ?_ ?_
   · intro si a W i hI hD hrd him
     obtain ⟨HI,HD,Hr⟩:=ax hI hD hrd;clear hI hrd hD hd;have y2:=HI.out.rst 2 rfl;have y4:=HI.out.rst 4 rfl;have y5:=HI.out.rst 5 rfl;have y6:=HI.out.rst 6 rfl;have y7:=HI.out.rst 7 rfl;obtain⟨HW1,HW2,HW3,HW4,HF1,HF2,HF3,HF4⟩:=HI.out.world;obtain⟨d0,d1,d2,d3,d4,d5,d6,d7,d8⟩:=di HW3;obtain⟨e0,e1,e2⟩:=cells3 HW4;obtain ⟨HW1,HW2,HW3,HW4,HF1,HF2,HF3,HF4⟩:=iA HW1 HW2 HW3 HW4 HF1 HF2 HF3 HF4;have X0:=HI.out.rg 0 20 rfl;have X1:=HI.out.rg 1 21 rfl;have X2:=HI.out.rg 2 22 rfl;have X3:=HI.out.rg 3 23 rfl;have X4:=HI.out.rg 4 24 rfl;have X5:=HI.out.rg 5 25 rfl;have X6:=HI.out.rg 6 26 rfl;have X7:=HI.out.rg 7 27 rfl;have X8:=HI.out.rg 8 28 rfl;have X9:=HI.out.rg 9 29 rfl;have X10:=HI.out.rg 10 30 rfl;have X11:=HI.out.rg 11 31 rfl
     match i,him,Hr with
     | 0,_,Hi|1,_,Hi|2,_,Hi =>
       try have x0:=X0.t Hi.out
       try dsimp only[QS.v,Qvv]at x0
       try have x1:=X1.t Hi.out
       try dsimp only[QS.v,Qvv]at x1
       refine av rfl fun K' hK=>?_;go_simp;exact hK.out _ _ ⟨HI.out.pv Hi.out rfl,(dG (by decide)).trans HD.out⟩
     | 3,_,Hi|4,_,Hi|5,_,Hi|6,_,Hi|7,_,Hi =>
       try have x3:=X3.t Hi.out
       try dsimp only[QS.v,Qvv]at x3
       try have x4:=X4.t Hi.out
       try dsimp only[QS.v,Qvv]at x4
       try have x5:=X5.t Hi.out
       try dsimp only[QS.v,Qvv]at x5
       try have x6:=X6.t Hi.out
       try dsimp only[QS.v,Qvv]at x6
       refine av rfl fun K' hK=>?_;go_simp;exact hK.out _ _ ⟨HI.out.pv Hi.out rfl,(dG (by decide)).trans HD.out⟩
     | 8,_,Hi|9,_,Hi =>
       try have x7:=X7.t Hi.out
       try dsimp only[QS.v,Qvv]at x7
       try have x8:=X8.t Hi.out
       try dsimp only[QS.v,Qvv]at x8
       refine av rfl fun K' hK=>?_;go_simp;exact hK.out _ _ ⟨HI.out.pv Hi.out rfl,(dG (by decide)).trans HD.out⟩
     | 10,_,Hi|11,_,Hi =>
       try have x7:=X7.t Hi.out
       try dsimp only[QS.v,Qvv]at x7
       try have x9:=X9.t Hi.out
       try dsimp only[QS.v,Qvv]at x9
       try have x10:=X10.t Hi.out
       try dsimp only[QS.v,Qvv]at x10
       refine av rfl fun K' hK=>?_;go_simp;exact hK.out _ _ ⟨HI.out.pv Hi.out rfl,(dG (by decide)).trans HD.out⟩
     | 12,_,Hi =>
       have x2:a.tmps[22]? = some (.agg (Qpl u6 w9 wo wu).toArray):=X2.q Hi.out;obtain⟨cs0,hc0,hn0,hk0⟩:=HW2.out;refine av rfl fun K' hK=>?_;change Oper.wp _ _ _ _ _ _;refine wp_store_row _ _ _ rfl (w.heap.size+1) (Qpl u6 w9 wo wu).toArray (jR y2) (jR x2) _ _ hk0 (oF 12 rfl (by kernel_rfl)) (by rw[hc0];rfl) (by simp[Value.oneCell',Qpl]) ?_;have hs:=(jr (vs:=Qpl u6 w9 wo wu) hk0 (by rw[hc0];rfl)).symm;have hp:(Qpl u6 w9 wo wu).all bi=true:=by simp[bi,Qpl]
       refine hK.out _ _ ⟨RInv.stored HI.out rfl Hi.out ⟨_,HD.out,SBk.row hk0 _⟩ ⟨oZ HW1.out _ (by omega),⟨_,rfl,by simp[bS,Qpl],SBk.row hk0 _⟩,?_,?_,?_,?_,?_,?_⟩,HD.out⟩
       · exact(setRow_other _ _ _ _ (by have:=L2;have:=ww.out.size;omega)).trans HW3.out
       · exact(setRow_other _ _ _ _ (by have:=L5;have:=wy.out.size;omega)).trans HW4.out
       · rw[hs];exact bE _ 0 HF1.out hk0 hn0 hp
       · rw[hs];exact bE _ 0 HF2.out hk0 hn0 hp
       · rw[hs];exact bE _ 0 HF3.out hk0 hn0 hp
       · rw[hs];exact bE _ 0 HF4.out hk0 hn0 hp
     | n+13,h,_=>exact absurd h (by omega)
   · intro si a W hI hD wz
     obtain ⟨HI,HA⟩:=aD hI wz;obtain⟨_,_,hblk⟩:=hI.slots 12 (by decide) (wz 12 (by decide));have hblk:=hid (show SBk W (w.heap.size+1) (Qpl u6 w9 wo wu).toArray 61 from hblk);obtain⟨hw1,_,_,_,hf1,hf2,hf3,hf4⟩:=hI.world;obtain ⟨HW1,HF1,HF2,HF3,HF4⟩:=bA hw1 hf1 hf2 hf3 hf4;clear hI wz hw1 hf1 hf2 hf3 hf4;have x11:a.tmps[31]? = some (.bool false):=HI.out.sx HA.out 11;have EA:=hid (HI.out.finx (L:=[(20,Qvv u6 w9 wo),(21,wu.v),(22,Qpp u6 w9 wo wu),(23,.bool false),(24,.bool false),(25,undef),(26,.bool false),(27,.bool false),(28,undef),(29,undef),(30,undef),(31,.bool false),(0,(.agg #[.string n1,.string n2,.string n3,.string n4]))]) ⟨HI.out.sx HA.out 0,HI.out.sx HA.out 1,HI.out.sx HA.out 2,HI.out.sx HA.out 3,HI.out.sx HA.out 4,HI.out.sx HA.out 5,HI.out.sx HA.out 6,HI.out.sx HA.out 7,HI.out.sx HA.out 8,HI.out.sx HA.out 9,HI.out.sx HA.out 10,HI.out.sx HA.out 11,hD,trivial⟩ rfl);refine aH (t:=0) ?_;refine av rfl fun K' hK=>?_;go_simp;refine hK.out _ _ ?_;clear hK;refine aO ?_;exact⟨rfl,dZ EA.out rfl,HW1.out,hblk.out,HF1.out,HF2.out,HF3.out,HF4.out⟩
 rintro a' W5 ⟨rfl,z0,z1,z2,z3,z4,z5⟩;obtain ⟨ma,K2,RA,RB,RC,RD⟩:=cZ z0 z1 z2 z3 z4 z5;clear z0 z1 z2 z3 z4 z5;simp only[aR,List.setIfInBounds_toArray,List.set_cons_zero,List.set_cons_succ];go_wp2;obtain⟨d0,d1,d2,d3,d4,d5,d6,d7,d8,d9,d10,d11⟩:=oU K2.out;exact bodyPost_ret (v:=.tuple #[.agg (Qpl u6 w9 wo wu).toArray,.bool (false)]) (by simp[Qpl,results,Tryz.results24,go_sem,d0,d1,d2,d3,d4,d5,d6,d7,d8,d9,d10,d11]) rfl ⟨_,_,_,_,rfl,RA.out,RB.out,RC.out,RD.out,ma.out⟩
theorem z4g (n1 n2 n3 n4:ByteArray)(xa xb xc xd:Rat)(bz:Bool)  (w:World)  (h1:KVb 25 (.agg #[.string n1,.string n2,.string n3]) xa xb xc true)(h2:KSb 51 (.string n4) xd false)(h3:KOut 38 xa xb xc (.bool bz))  :
 Calls Tryz.prog 24 #[.agg #[.string n1,.string n2,.string n3,.string n4]] w (RPb w xa xb xc xd (false)):=by
 obtain ⟨C1,C2,C3⟩:=ax h1 h2 h3;clear h1 h2 h3;go_enter Tryz.func24,Tryz.ntmps24
 go_upto_region 1 with fail
 refine ak w [(#[.string n1,.string n2,.string n3,.string n4],26),(#[.bool false,.slice none 0 0,.slice none 0 0,.bool false,.slice none 0 0,.slice none 0 0,.bool false,.slice none 0 0,.slice none 0 0,.bool false,.slice none 0 0,.slice none 0 0],61)] rfl ?_;rintro W0 ⟨k1,k2,hb⟩;have rV:=hid (show Below w.heap.size w W0 from hb);have K1:=hid k1;have K2:=hid k2;clear k1 k2 hb;obtain ⟨p8,pq,ol⟩:=ah K1.out rfl rfl rfl;go_wp2_with fail
 with_reducible refine(C1.out _).mono ?_
 rintro e W1 ⟨u6,w9,wo,rfl,sj,sw,r9,hb⟩;clear p8 pq ol;obtain ⟨K1,K2⟩:=aQ hb K1 K2;have ww:=hbt rV hb;obtain ⟨RA,RB,RC⟩:=ax sj sw r9;clear hb sj sw r9;go_upto_region 2 with fail
 refine ak W1 [(#[.bool u6.b,.slice u6.a u6.n u6.c,.slice u6.e u6.m u6.d,.bool w9.b,.slice w9.a w9.n w9.c,.slice w9.e w9.m w9.d,.bool wo.b,.slice wo.a wo.n wo.c,.slice wo.e wo.m wo.d],59)] rfl ?_;have L1:=K1.out.lt;have L2:=K2.out.lt;have L3:=ww.out.size;rintro W2 ⟨k3,hb⟩;have hb:Below W1.heap.size W1 W2:=hb;obtain ⟨K1,K2,RA,RB,RC⟩:=bG hb K1 K2 RA RB RC;have oM:=hbt ww hb;have K3:=hid k3;clear k3 hb;have oV:=K1.out.cell (i:=3) rfl;go_wp2_with fail
 with_reducible refine(C2.out _).mono ?_
 rintro e W3 ⟨wu,rfl,rf,hb⟩;clear oV;obtain ⟨K1,K2,K3,RA,RB,RC⟩:=cu hb K1 K2 K3 RA RB RC;have wy:=hbt oM hb;have RD:=hid rf;clear hb rf;go_upto_region 3 with fail
 refine ak W3 [(#[.bool wu.b,.slice wu.a wu.n wu.c,.slice wu.e wu.m wu.d],57)] rfl ?_;have L4:=K1.out.lt;have L5:=K2.out.lt;have L6:=K3.out.lt;have L7:=wy.out.size;rintro W4 ⟨k4,hb⟩;have hb:Below W3.heap.size W3 W4:=hb;obtain ⟨K2,K3,RA,RB,RC,RD⟩:=cu hb K2 K3 RA RB RC RD;have rM:=hbt wy hb;have K4:=hid k4;clear k4 hb;go_wp2_with fail
 refine ay (fun a0 a' V=>a'=⟨aR [(20,Qvv u6 w9 wo),(21,wu.v),(22,Qpp u6 w9 wo wu),(23,.bool true),(24,.bool true),(25,.bool false),(26,.bool false),(27,.bool false),(28,undef),(29,undef),(30,undef),(31,.bool false),(0,(.agg #[.string n1,.string n2,.string n3,.string n4])),(3,.bool (false))] a0.tmps,a0.defers⟩∧Below w.heap.size w V∧SBk V (w.heap.size+1) (Qpl u6 w9 wo wu).toArray 61∧FQ V u6 xa∧FQ V w9 xb∧FQ V wo xc∧FQ V wu xd) ?_ ?_
 · have hd:=(Below.refl W4.heap.size W4).drew
   refine dR (by kernel_rfl) 13 1 (fun i=>[20,21,22,23,24,25,26,27,28,29,30,31,0].getD i 0) (RelR (List.map Rel.val [Qvv u6 w9 wo,wu.v,Qpp u6 w9 wo wu,.bool true,.bool true,.bool false,.bool false,.bool false,undef,undef,undef,.bool false]++[Rel.blk (w.heap.size+1) (Qpl u6 w9 wo wu).toArray 61])) (fun W=>Below w.heap.size w W∧(∃ cs:Array Value,cs.size=12∧bS cs=true∧SBk W (w.heap.size+1) cs 61)∧SBk W W1.heap.size (Lvv u6 w9 wo).toArray 59∧SBk W W3.heap.size wu.l.toArray 57∧FQ W u6 xa∧FQ W w9 xb∧FQ W wo xc∧FQ W wu xd) (fun _ a=>a.tmps[0]? = some (.agg #[.string n1,.string n2,.string n3,.string n4])) (by kernel_rfl) (by kernel_rfl) (by kernel_rfl) rfl ⟨rM.out.trans (hd.mono rM.out.size),⟨_,rfl,by simp[bS],K2.out.below hd⟩,K3.out.below hd,K4.out.below hd,RA.out.below hd,RB.out.below hd,RC.out.below hd,RD.out.below hd⟩ ?_ ?_
   · intro si a W i hI hD hrd him
     obtain ⟨HI,HD,Hr⟩:=ax hI hD hrd;clear hI hrd hD hd;have y2:=HI.out.rst 2 rfl;have y4:=HI.out.rst 4 rfl;have y5:=HI.out.rst 5 rfl;have y6:=HI.out.rst 6 rfl;have y7:=HI.out.rst 7 rfl;obtain⟨HW1,HW2,HW3,HW4,HF1,HF2,HF3,HF4⟩:=HI.out.world;obtain⟨d0,d1,d2,d3,d4,d5,d6,d7,d8⟩:=di HW3;obtain⟨e0,e1,e2⟩:=cells3 HW4;obtain ⟨HW1,HW2,HW3,HW4,HF1,HF2,HF3,HF4⟩:=iA HW1 HW2 HW3 HW4 HF1 HF2 HF3 HF4;have X0:=HI.out.rg 0 20 rfl;have X1:=HI.out.rg 1 21 rfl;have X2:=HI.out.rg 2 22 rfl;have X3:=HI.out.rg 3 23 rfl;have X4:=HI.out.rg 4 24 rfl;have X5:=HI.out.rg 5 25 rfl;have X6:=HI.out.rg 6 26 rfl;have X7:=HI.out.rg 7 27 rfl;have X8:=HI.out.rg 8 28 rfl;have X9:=HI.out.rg 9 29 rfl;have X10:=HI.out.rg 10 30 rfl;have X11:=HI.out.rg 11 31 rfl
     match i,him,Hr with
     | 0,_,Hi|1,_,Hi|2,_,Hi =>
       try have x0:=X0.t Hi.out
       try dsimp only[QS.v,Qvv]at x0
       try have x1:=X1.t Hi.out
       try dsimp only[QS.v,Qvv]at x1
       refine av rfl fun K' hK=>?_;go_simp;exact hK.out _ _ ⟨HI.out.pv Hi.out rfl,(dG (by decide)).trans HD.out⟩
     | 3,_,Hi|4,_,Hi|5,_,Hi|6,_,Hi|7,_,Hi =>
       try have x3:=X3.t Hi.out
       try dsimp only[QS.v,Qvv]at x3
       try have x4:=X4.t Hi.out
       try dsimp only[QS.v,Qvv]at x4
       try have x5:=X5.t Hi.out
       try dsimp only[QS.v,Qvv]at x5
       try have x6:=X6.t Hi.out
       try dsimp only[QS.v,Qvv]at x6
       refine av rfl fun K' hK=>?_;go_simp;exact hK.out _ _ ⟨HI.out.pv Hi.out rfl,(dG (by decide)).trans HD.out⟩
     | 8,_,Hi|9,_,Hi =>
       try have x7:=X7.t Hi.out
       try dsimp only[QS.v,Qvv]at x7
       try have x8:=X8.t Hi.out
       try dsimp only[QS.v,Qvv]at x8
       refine av rfl fun K' hK=>?_;go_simp;exact hK.out _ _ ⟨HI.out.pv Hi.out rfl,(dG (by decide)).trans HD.out⟩
     | 10,_,Hi|11,_,Hi =>
       try have x7:=X7.t Hi.out
       try dsimp only[QS.v,Qvv]at x7
       try have x9:=X9.t Hi.out
       try dsimp only[QS.v,Qvv]at x9
       try have x10:=X10.t Hi.out
       try dsimp only[QS.v,Qvv]at x10
       refine av rfl fun K' hK=>?_;go_simp;exact hK.out _ _ ⟨HI.out.pv Hi.out rfl,(dG (by decide)).trans HD.out⟩
     | 12,_,Hi =>
       have x2:a.tmps[22]? = some (.agg (Qpl u6 w9 wo wu).toArray):=X2.q Hi.out;obtain⟨cs0,hc0,hn0,hk0⟩:=HW2.out;refine av rfl fun K' hK=>?_;change Oper.wp _ _ _ _ _ _;refine wp_store_row _ _ _ rfl (w.heap.size+1) (Qpl u6 w9 wo wu).toArray (jR y2) (jR x2) _ _ hk0 (oF 12 rfl (by kernel_rfl)) (by rw[hc0];rfl) (by simp[Value.oneCell',Qpl]) ?_;have hs:=(jr (vs:=Qpl u6 w9 wo wu) hk0 (by rw[hc0];rfl)).symm;have hp:(Qpl u6 w9 wo wu).all bi=true:=by simp[bi,Qpl]
       refine hK.out _ _ ⟨RInv.stored HI.out rfl Hi.out ⟨_,HD.out,SBk.row hk0 _⟩ ⟨oZ HW1.out _ (by omega),⟨_,rfl,by simp[bS,Qpl],SBk.row hk0 _⟩,?_,?_,?_,?_,?_,?_⟩,HD.out⟩
       · exact(setRow_other _ _ _ _ (by have:=L2;have:=ww.out.size;omega)).trans HW3.out
       · exact(setRow_other _ _ _ _ (by have:=L5;have:=wy.out.size;omega)).trans HW4.out
       · rw[hs];exact bE _ 0 HF1.out hk0 hn0 hp
       · rw[hs];exact bE _ 0 HF2.out hk0 hn0 hp
       · rw[hs];exact bE _ 0 HF3.out hk0 hn0 hp
       · rw[hs];exact bE _ 0 HF4.out hk0 hn0 hp
     | n+13,h,_=>exact absurd h (by omega)
   · intro si a W hI hD wz
     obtain ⟨HI,HA⟩:=aD hI wz;obtain⟨_,_,hblk⟩:=hI.slots 12 (by decide) (wz 12 (by decide));have hblk:=hid (show SBk W (w.heap.size+1) (Qpl u6 w9 wo wu).toArray 61 from hblk);obtain⟨hw1,_,_,_,hf1,hf2,hf3,hf4⟩:=hI.world;obtain ⟨HW1,HF1,HF2,HF3,HF4⟩:=bA hw1 hf1 hf2 hf3 hf4;clear hI wz hw1 hf1 hf2 hf3 hf4;have x11:a.tmps[31]? = some (.bool false):=HI.out.sx HA.out 11;have EA:=hid (HI.out.finx (L:=[(20,Qvv u6 w9 wo),(21,wu.v),(22,Qpp u6 w9 wo wu),(23,.bool true),(24,.bool true),(25,.bool false),(26,.bool false),(27,.bool false),(28,undef),(29,undef),(30,undef),(31,.bool false),(0,(.agg #[.string n1,.string n2,.string n3,.string n4]))]) ⟨HI.out.sx HA.out 0,HI.out.sx HA.out 1,HI.out.sx HA.out 2,HI.out.sx HA.out 3,HI.out.sx HA.out 4,HI.out.sx HA.out 5,HI.out.sx HA.out 6,HI.out.sx HA.out 7,HI.out.sx HA.out 8,HI.out.sx HA.out 9,HI.out.sx HA.out 10,HI.out.sx HA.out 11,hD,trivial⟩ rfl);refine aH (t:=0) ?_;refine av rfl fun K' hK=>?_;go_simp;refine hK.out _ _ ?_;clear hK;refine aO ?_;exact⟨rfl,dZ EA.out rfl,HW1.out,hblk.out,HF1.out,HF2.out,HF3.out,HF4.out⟩
 rintro a' W5 ⟨rfl,z0,z1,z2,z3,z4,z5⟩;obtain ⟨ma,K2,RA,RB,RC,RD⟩:=cZ z0 z1 z2 z3 z4 z5;clear z0 z1 z2 z3 z4 z5;simp only[aR,List.setIfInBounds_toArray,List.set_cons_zero,List.set_cons_succ];go_wp2;obtain⟨d0,d1,d2,d3,d4,d5,d6,d7,d8,d9,d10,d11⟩:=oU K2.out;exact bodyPost_ret (v:=.tuple #[.agg (Qpl u6 w9 wo wu).toArray,.bool (false)]) (by simp[Qpl,results,Tryz.results24,go_sem,d0,d1,d2,d3,d4,d5,d6,d7,d8,d9,d10,d11]) rfl ⟨_,_,_,_,rfl,RA.out,RB.out,RC.out,RD.out,ma.out⟩
theorem z4f (n1 n2 n3 n4:ByteArray)(xa xb xc xd:Rat)(bz:Bool)  (w:World)  (h1:KVb 25 (.agg #[.string n1,.string n2,.string n3]) xa xb xc true)(h2:KSb 51 (.string n4) xd true)(h3:KOut 38 xa xb xc (.bool bz))  :
 Calls Tryz.prog 24 #[.agg #[.string n1,.string n2,.string n3,.string n4]] w (RPb w xa xb xc xd (!bz)):=by
 obtain ⟨C1,C2,C3⟩:=ax h1 h2 h3;clear h1 h2 h3;go_enter Tryz.func24,Tryz.ntmps24
 go_upto_region 1 with fail
 refine ak w [(#[.string n1,.string n2,.string n3,.string n4],26),(#[.bool false,.slice none 0 0,.slice none 0 0,.bool false,.slice none 0 0,.slice none 0 0,.bool false,.slice none 0 0,.slice none 0 0,.bool false,.slice none 0 0,.slice none 0 0],61)] rfl ?_;rintro W0 ⟨k1,k2,hb⟩;have rV:=hid (show Below w.heap.size w W0 from hb);have K1:=hid k1;have K2:=hid k2;clear k1 k2 hb;obtain ⟨p8,pq,ol⟩:=ah K1.out rfl rfl rfl;go_wp2_with fail
 with_reducible refine(C1.out _).mono ?_
 rintro e W1 ⟨u6,w9,wo,rfl,sj,sw,r9,hb⟩;clear p8 pq ol;obtain ⟨K1,K2⟩:=aQ hb K1 K2;have ww:=hbt rV hb;obtain ⟨RA,RB,RC⟩:=ax sj sw r9;clear hb sj sw r9;go_upto_region 2 with fail
 refine ak W1 [(#[.bool u6.b,.slice u6.a u6.n u6.c,.slice u6.e u6.m u6.d,.bool w9.b,.slice w9.a w9.n w9.c,.slice w9.e w9.m w9.d,.bool wo.b,.slice wo.a wo.n wo.c,.slice wo.e wo.m wo.d],59)] rfl ?_;have L1:=K1.out.lt;have L2:=K2.out.lt;have L3:=ww.out.size;rintro W2 ⟨k3,hb⟩;have hb:Below W1.heap.size W1 W2:=hb;obtain ⟨K1,K2,RA,RB,RC⟩:=bG hb K1 K2 RA RB RC;have oM:=hbt ww hb;have K3:=hid k3;clear k3 hb;have oV:=K1.out.cell (i:=3) rfl;go_wp2_with fail
 with_reducible refine(C2.out _).mono ?_
 rintro e W3 ⟨wu,rfl,rf,hb⟩;clear oV;obtain ⟨K1,K2,K3,RA,RB,RC⟩:=cu hb K1 K2 K3 RA RB RC;have wy:=hbt oM hb;have RD:=hid rf;clear hb rf;go_upto_region 3 with fail
 refine ak W3 [(#[.bool wu.b,.slice wu.a wu.n wu.c,.slice wu.e wu.m wu.d],57)] rfl ?_;have L4:=K1.out.lt;have L5:=K2.out.lt;have L6:=K3.out.lt;have L7:=wy.out.size;rintro W4 ⟨k4,hb⟩;have hb:Below W3.heap.size W3 W4:=hb;obtain ⟨K2,K3,RA,RB,RC,RD⟩:=cu hb K2 K3 RA RB RC RD;have rM:=hbt wy hb;have K4:=hid k4;clear k4 hb;go_wp2_with fail
 refine ay (fun a0 a' V=>a'=⟨aR [(20,Qvv u6 w9 wo),(21,wu.v),(22,Qpp u6 w9 wo wu),(23,.bool true),(24,.bool true),(25,.bool true),(26,.bool true),(27,.bool true),(28,Qvv u6 w9 wo),(29,.bool bz),(30,.bool (!bz)),(31,.bool (!bz)),(0,(.agg #[.string n1,.string n2,.string n3,.string n4])),(3,.bool (!bz))] a0.tmps,a0.defers⟩∧Below w.heap.size w V∧SBk V (w.heap.size+1) (Qpl u6 w9 wo wu).toArray 61∧FQ V u6 xa∧FQ V w9 xb∧FQ V wo xc∧FQ V wu xd) ?_ ?_
 · have hd:=(Below.refl W4.heap.size W4).drew
   refine dR (by kernel_rfl) 13 1 (fun i=>[20,21,22,23,24,25,26,27,28,29,30,31,0].getD i 0) (RelR (List.map Rel.val [Qvv u6 w9 wo,wu.v,Qpp u6 w9 wo wu,.bool true,.bool true,.bool true,.bool true,.bool true,Qvv u6 w9 wo,.bool bz,.bool (!bz),.bool (!bz)]++[Rel.blk (w.heap.size+1) (Qpl u6 w9 wo wu).toArray 61])) (fun W=>Below w.heap.size w W∧(∃ cs:Array Value,cs.size=12∧bS cs=true∧SBk W (w.heap.size+1) cs 61)∧SBk W W1.heap.size (Lvv u6 w9 wo).toArray 59∧SBk W W3.heap.size wu.l.toArray 57∧FQ W u6 xa∧FQ W w9 xb∧FQ W wo xc∧FQ W wu xd) (fun _ a=>a.tmps[0]? = some (.agg #[.string n1,.string n2,.string n3,.string n4])) (by kernel_rfl) (by kernel_rfl) (by kernel_rfl) rfl ⟨rM.out.trans (hd.mono rM.out.size),⟨_,rfl,by simp[bS],K2.out.below hd⟩,K3.out.below hd,K4.out.below hd,RA.out.below hd,RB.out.below hd,RC.out.below hd,RD.out.below hd⟩ ?_ ?_
   · intro si a W i hI hD hrd him
     obtain ⟨HI,HD,Hr⟩:=ax hI hD hrd;clear hI hrd hD hd;have y2:=HI.out.rst 2 rfl;have y4:=HI.out.rst 4 rfl;have y5:=HI.out.rst 5 rfl;have y6:=HI.out.rst 6 rfl;have y7:=HI.out.rst 7 rfl;obtain⟨HW1,HW2,HW3,HW4,HF1,HF2,HF3,HF4⟩:=HI.out.world;obtain⟨d0,d1,d2,d3,d4,d5,d6,d7,d8⟩:=di HW3;obtain⟨e0,e1,e2⟩:=cells3 HW4;obtain ⟨HW1,HW2,HW3,HW4,HF1,HF2,HF3,HF4⟩:=iA HW1 HW2 HW3 HW4 HF1 HF2 HF3 HF4;have X0:=HI.out.rg 0 20 rfl;have X1:=HI.out.rg 1 21 rfl;have X2:=HI.out.rg 2 22 rfl;have X3:=HI.out.rg 3 23 rfl;have X4:=HI.out.rg 4 24 rfl;have X5:=HI.out.rg 5 25 rfl;have X6:=HI.out.rg 6 26 rfl;have X7:=HI.out.rg 7 27 rfl;have X8:=HI.out.rg 8 28 rfl;have X9:=HI.out.rg 9 29 rfl;have X10:=HI.out.rg 10 30 rfl;have X11:=HI.out.rg 11 31 rfl
     match i,him,Hr with
     | 0,_,Hi|1,_,Hi|2,_,Hi =>
       try have x0:=X0.t Hi.out
       try dsimp only[QS.v,Qvv]at x0
       try have x1:=X1.t Hi.out
       try dsimp only[QS.v,Qvv]at x1
       refine av rfl fun K' hK=>?_;go_simp;exact hK.out _ _ ⟨HI.out.pv Hi.out rfl,(dG (by decide)).trans HD.out⟩
     | 3,_,Hi|4,_,Hi|5,_,Hi|6,_,Hi|7,_,Hi =>
       try have x3:=X3.t Hi.out
       try dsimp only[QS.v,Qvv]at x3
       try have x4:=X4.t Hi.out
       try dsimp only[QS.v,Qvv]at x4
       try have x5:=X5.t Hi.out
       try dsimp only[QS.v,Qvv]at x5
       try have x6:=X6.t Hi.out
       try dsimp only[QS.v,Qvv]at x6
       refine av rfl fun K' hK=>?_;go_simp;exact hK.out _ _ ⟨HI.out.pv Hi.out rfl,(dG (by decide)).trans HD.out⟩
     | 8,_,Hi =>
       try have x7:=X7.t Hi.out
       try dsimp only[QS.v,Qvv]at x7
       refine av rfl fun K' hK=>?_;go_simp;exact hK.out _ _ ⟨HI.out.pv Hi.out rfl,(dG (by decide)).trans HD.out⟩
     | 9,_,Hi =>
       have x7:=X7.q Hi.out;have x8:=X8.q Hi.out;dsimp only[Qvv]at x8;refine av rfl fun K' hK=>?_;go_simp;with_reducible refine(C3.out _ _ _ _ HF1.out HF2.out HF3.out).mono ?_
       rintro e W' ⟨rfl,hb⟩;obtain⟨cs0,hc0,hn0,hk0⟩:=HW2.out;refine hK.out _ _ ⟨RInv.put HI.out Hi.out (by decide) rfl (by simp) (by decide) rfl (fun j u k=>RelR.mono hb j u k) ⟨HW1.out.trans (hb.mono HW1.out.size),⟨cs0,hc0,hn0,hk0.below hb⟩,HW3.out.below hb,HW4.out.below hb,HF1.out.below hb,HF2.out.below hb,HF3.out.below hb,HF4.out.below hb⟩,(dG (by decide)).trans HD.out⟩
     | 10,_,Hi|11,_,Hi =>
       try have x7:=X7.t Hi.out
       try dsimp only[QS.v,Qvv]at x7
       try have x9:=X9.t Hi.out
       try dsimp only[QS.v,Qvv]at x9
       try have x10:=X10.t Hi.out
       try dsimp only[QS.v,Qvv]at x10
       refine av rfl fun K' hK=>?_;go_simp;exact hK.out _ _ ⟨HI.out.pv Hi.out rfl,(dG (by decide)).trans HD.out⟩
     | 12,_,Hi =>
       have x2:a.tmps[22]? = some (.agg (Qpl u6 w9 wo wu).toArray):=X2.q Hi.out;obtain⟨cs0,hc0,hn0,hk0⟩:=HW2.out;refine av rfl fun K' hK=>?_;change Oper.wp _ _ _ _ _ _;refine wp_store_row _ _ _ rfl (w.heap.size+1) (Qpl u6 w9 wo wu).toArray (jR y2) (jR x2) _ _ hk0 (oF 12 rfl (by kernel_rfl)) (by rw[hc0];rfl) (by simp[Value.oneCell',Qpl]) ?_;have hs:=(jr (vs:=Qpl u6 w9 wo wu) hk0 (by rw[hc0];rfl)).symm;have hp:(Qpl u6 w9 wo wu).all bi=true:=by simp[bi,Qpl]
       refine hK.out _ _ ⟨RInv.stored HI.out rfl Hi.out ⟨_,HD.out,SBk.row hk0 _⟩ ⟨oZ HW1.out _ (by omega),⟨_,rfl,by simp[bS,Qpl],SBk.row hk0 _⟩,?_,?_,?_,?_,?_,?_⟩,HD.out⟩
       · exact(setRow_other _ _ _ _ (by have:=L2;have:=ww.out.size;omega)).trans HW3.out
       · exact(setRow_other _ _ _ _ (by have:=L5;have:=wy.out.size;omega)).trans HW4.out
       · rw[hs];exact bE _ 0 HF1.out hk0 hn0 hp
       · rw[hs];exact bE _ 0 HF2.out hk0 hn0 hp
       · rw[hs];exact bE _ 0 HF3.out hk0 hn0 hp
       · rw[hs];exact bE _ 0 HF4.out hk0 hn0 hp
     | n+13,h,_=>exact absurd h (by omega)
   · intro si a W hI hD wz
     obtain ⟨HI,HA⟩:=aD hI wz;obtain⟨_,_,hblk⟩:=hI.slots 12 (by decide) (wz 12 (by decide));have hblk:=hid (show SBk W (w.heap.size+1) (Qpl u6 w9 wo wu).toArray 61 from hblk);obtain⟨hw1,_,_,_,hf1,hf2,hf3,hf4⟩:=hI.world;obtain ⟨HW1,HF1,HF2,HF3,HF4⟩:=bA hw1 hf1 hf2 hf3 hf4;clear hI wz hw1 hf1 hf2 hf3 hf4;have x11:a.tmps[31]? = some (.bool (!bz)):=HI.out.sx HA.out 11;have EA:=hid (HI.out.finx (L:=[(20,Qvv u6 w9 wo),(21,wu.v),(22,Qpp u6 w9 wo wu),(23,.bool true),(24,.bool true),(25,.bool true),(26,.bool true),(27,.bool true),(28,Qvv u6 w9 wo),(29,.bool bz),(30,.bool (!bz)),(31,.bool (!bz)),(0,(.agg #[.string n1,.string n2,.string n3,.string n4]))]) ⟨HI.out.sx HA.out 0,HI.out.sx HA.out 1,HI.out.sx HA.out 2,HI.out.sx HA.out 3,HI.out.sx HA.out 4,HI.out.sx HA.out 5,HI.out.sx HA.out 6,HI.out.sx HA.out 7,HI.out.sx HA.out 8,HI.out.sx HA.out 9,HI.out.sx HA.out 10,HI.out.sx HA.out 11,hD,trivial⟩ rfl);refine aH (t:=0) ?_;refine av rfl fun K' hK=>?_;go_simp;refine hK.out _ _ ?_;clear hK;refine aO ?_;exact⟨rfl,dZ EA.out rfl,HW1.out,hblk.out,HF1.out,HF2.out,HF3.out,HF4.out⟩
 rintro a' W5 ⟨rfl,z0,z1,z2,z3,z4,z5⟩;obtain ⟨ma,K2,RA,RB,RC,RD⟩:=cZ z0 z1 z2 z3 z4 z5;clear z0 z1 z2 z3 z4 z5;simp only[aR,List.setIfInBounds_toArray,List.set_cons_zero,List.set_cons_succ];go_wp2;obtain⟨d0,d1,d2,d3,d4,d5,d6,d7,d8,d9,d10,d11⟩:=oU K2.out;exact bodyPost_ret (v:=.tuple #[.agg (Qpl u6 w9 wo wu).toArray,.bool (!bz)]) (by simp[Qpl,results,Tryz.results24,go_sem,d0,d1,d2,d3,d4,d5,d6,d7,d8,d9,d10,d11]) rfl ⟨_,_,_,_,rfl,RA.out,RB.out,RC.out,RD.out,ma.out⟩
