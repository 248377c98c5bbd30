/- texts -/
import Derived.Test.YthbdjinlcgnebaaGreatDoorMz23q
import Derived.Test.YthbdjinlcgnebaaGreatDoorMz15q
set_option maxRecDepth 100000
set_option maxHeartbeats 20000000
open Go.Lib (hid)
namespace Go.Proofs.YthbdjinlcgnebaaGreatDoor
open Go.RowKit Go.Gb
def Eb (w:World) (g:Nat) (vf vs vp vq:Value) (n:Bool):Prop:=w.heap[g]? = some (.cells #[vf,vs,vp,vq,.bool n] 186 (0,0))
theorem Eb.lt {w:World}{g:Nat}{vf vs vp vq:Value}{n:Bool}(h:Eb w g vf vs vp vq n):g<w.heap.size:=(Array.getElem?_eq_some_iff.1 h).1
theorem Eb.cells {w:World}{g:Nat}{vf vs vp vq:Value}{n:Bool}(h:Eb w g vf vs vp vq n):w.cell? ⟨g,0,none⟩=some vf∧w.cell? ⟨g,1,none⟩=some vs∧w.cell? ⟨g,2,none⟩=some vp∧w.cell? ⟨g,3,none⟩=some vq∧w.cell? ⟨g,4,none⟩=some (.bool n):=by
 unfold Eb at h
 refine⟨?_,?_,?_,?_,?_⟩<;>simp[World.cell?,h]
theorem Eb.free {w:World}{g:Nat}{vf vs vp vq:Value}{n:Bool}(h:Eb w g vf vs vp vq n)(i:Nat):w.frozen? ⟨g,i,none⟩=false:=by
 unfold Eb at h
 simp only[World.frozen?,h];simp
theorem Eb.kp {w w':World}{g:Nat}{vf vs vp vq:Value}{n:Bool}(h:Eb w g vf vs vp vq n){S:Nat→Prop}(hk:Kp S w w')(hn:¬ S g):Eb w' g vf vs vp vq n:=by
 unfold Eb at *
 rw[hk.block g (Array.getElem?_eq_some_iff.1 h).1 hn];exact h
theorem Eb.below {w w':World}{g:Nat}{vf vs vp vq:Value}{n:Bool}(h:Eb w g vf vs vp vq n)(hb:Below w.heap.size w w'):Eb w' g vf vs vp vq n:=h.kp (S:=fun _=>False) (Kp.of_below hb) (fun h=>h)
theorem Eb.set01 {w:World}{g:Nat}{vf vs vp vq:Value}{n:Bool}(h:Eb w g vf vs vp vq n)(a b:Value):Eb ((w.setCell ⟨g,0,none⟩ a).setCell ⟨g,1,none⟩ b) g a b vp vq n:=by
 unfold Eb at *
 simp only[World.setCell,Array.getElem?_modify,h];simp
theorem Eb.set23 {w:World}{g:Nat}{vf vs vp vq:Value}{n:Bool}(h:Eb w g vf vs vp vq n)(a b:Value):Eb ((w.setCell ⟨g,2,none⟩ a).setCell ⟨g,3,none⟩ b) g vf vs a b n:=by
 unfold Eb at *
 simp only[World.setCell,Array.getElem?_modify,h];simp
theorem Eb.set4 {w:World}{g:Nat}{vf vs vp vq:Value}{n:Bool}(h:Eb w g vf vs vp vq n)(m:Bool):Eb (w.setCell ⟨g,4,none⟩ (.bool m)) g vf vs vp vq m:=by
 unfold Eb at *
 simp only[World.setCell,Array.getElem?_modify,h];simp
theorem Eb.apart {w:World}{g B:Nat}{vf vs vp vq v:Value}{n:Bool}{xs:List Nat}(h:Eb w g vf vs vp vq n)(ho:Own .u64 115 B w v xs):¬ At v g:=by
 intro hg;obtain⟨_,h2⟩:=ho;rcases h2 with⟨rfl,_⟩|⟨k,cap,cur,rfl,_,hh,_⟩
 · exact at_nil _ _ _ hg
 · rw[fH]at hg
   subst hg;unfold Eb at h
   rw[h]at hh;injection hh with hh
   injection hh with e1 e2 e3
   exact absurd e2 (by decide)
structure St4 (B:Nat) (w:World) (vf vs vp vq:Value) (F S P Q:Nat):Prop where
 f:Own .u64 115 B w vf (aa F)
 s:Own .u64 115 B w vs (aa S)
 p:Own .u64 115 B w vp (aa P)
 q:Own .u64 115 B w vq (aa Q)
 fs:Apt vf vs
 fp:Apt vf vp
 fq:Apt vf vq
 sp:Apt vs vp
 sq:Apt vs vq
 pq:Apt vp vq
theorem St4.below {B:Nat}{w w':World}{vf vs vp vq:Value}{F S P Q:Nat}(h:St4 B w vf vs vp vq F S P Q)(hb:Below w.heap.size w w'):St4 B w' vf vs vp vq F S P Q :=
 ⟨h.f.below hb,h.s.below hb,h.p.below hb,h.q.below hb,h.fs,h.fp,h.fq,h.sp,h.sq,h.pq⟩
theorem St4.kp {B:Nat}{w w':World}{vf vs vp vq:Value}{F S P Q:Nat}(h:St4 B w vf vs vp vq F S P Q){Z:Nat→Prop}(hk:Kp Z w w')(hn:∀ g,(At vf g∨At vs g∨At vp g∨At vq g)→¬ Z g):St4 B w' vf vs vp vq F S P Q :=
 ⟨h.f.kp hk (fun g hg=>hn g (Or.inl hg)),h.s.kp hk (fun g hg=>hn g (Or.inr (Or.inl hg))),h.p.kp hk (fun g hg=>hn g (Or.inr (Or.inr (Or.inl hg)))),h.q.kp hk (fun g hg=>hn g (Or.inr (Or.inr (Or.inr hg)))),h.fs,h.fp,h.fq,h.sp,h.sq,h.pq⟩
theorem gN {w:World}(g i:Nat)(u:Value):Kp (fun k=>k=g) w (w.setCell ⟨g,i,none⟩ u):=(Kp.refl (fun k=>k=g) w).set (p:=⟨g,i,none⟩) (fun _=>rfl) u
def EuSt (B:Nat) (w:World) (g F S P Q:Nat) (n:Bool):Prop:=∃ vf vs vp vq,Eb w g vf vs vp vq n∧B≤g∧St4 B w vf vs vp vq F S P Q
theorem fo {k:IntKind}{T:TypeId}{w0 w:World}{v:Value}{xs:List Nat}(h:Own k T w0.heap.size w v xs)(u:Value)(hu:∀ g,At u g→g<w0.heap.size):Apt v u:=Apt.fresh h.fresh hu
theorem z0o (B g F S P Q:Nat)(n:Bool)(hS0:S≠0)(hlF:(aa F).length≤80000)(hlP:(aa P).length≤80000)(hlQ:(aa Q).length≤80000)(hlN:(aa (P+F / S*Q)).length≤80000)(w:World)(h:EuSt B w g F S P Q n)(hB:B≤w.heap.size) :
 Calls Tryz.prog 184 #[.pointer (some ⟨g,0,none⟩)] w fun e w'=>e=.returned (.tuple #[])∧Hid (EuSt B w' g S (F%S) Q (P+F / S*Q) (!n))∧Below B w w':=by
 obtain⟨vf,vs,vp,vq,hE,hBg,h4⟩:=h;obtain⟨as_,cs_,rfl⟩:=aU h4.s.rd;obtain⟨aq,cq,rfl⟩:=aU h4.q.rd;have HDv:=hid (pz vf (.slice as_ (aa S).length cs_) F S hS0 (by omega) w.drew h4.f.rd h4.s.rd);obtain⟨D,hD⟩:∃ D,D=F / S:=⟨_,rfl⟩;obtain⟨R,hR⟩:∃ R,R=F%S:=⟨_,rfl⟩;rw[← hD,← hR]at HDv;rw[← hD]at hlN;rw[← hD,← hR]
 have hlD:(aa D).length≤80000:=by
  rw[hD];exact Nat.le_trans (aM (Nat.div_le_self F S)) hlF
 have hlX:(aa (D*Q)).length≤80000:=Nat.le_trans (aM (Nat.le_add_left _ _)) hlN;obtain ⟨HE,H4,HB,HBg⟩:=aP hE h4 hB hBg;obtain⟨c0,c1,c2,c3,c4⟩:=hE.cells;clear hD hR hE h4 hB hBg hS0 hlF;go_enter Tryz.func184,Tryz.ntmps184
 go_upto_region 0 with fail
 go_cut [2,3] (fun v2 v3 wx=>∃ qv rv:Value,v2=qv∧v3=rv∧Hid (Own .u64 115 w.heap.size wx qv (aa D))∧Hid (Own .u64 115 w.heap.size wx rv (aa R))∧Hid (Below w.heap.size w wx))
 case first =>
  go_region_with (go_at_call 209;go_must (refine HDv.out.mono ?_;rintro e w1 ⟨qv,rv,rfl,hq,hr,hb1⟩))
  all_goals
   have HQ:=hid (show Own .u64 115 w.heap.size w1 qv (aa D) from hq);have HR:=hid (show Own .u64 115 w.heap.size w1 rv (aa R) from hr);have u6:=hid (show Below w.heap.size w w1 from(Below.refl _ w).drew.trans hb1);clear hq hr hb1;go_wp2_with fail
   go_meet
   exact⟨qv,rv,rfl,rfl,HQ,HR,u6⟩
 case rest =>
  obtain⟨_,_,rfl,rfl,hq,hr,hb⟩:=hcut;obtain⟨ar,cr,rfl⟩:=aU hr.out.rd;clear c0 c1 c2 c3 c4;have hE1:=HE.out.below hb.out;obtain⟨c0,c1,c2,c3,c4⟩:=hE1.cells;have f0:=hE1.free 0;have f1:=hE1.free 1;have HE2:=hid (hE1.set01 (.slice as_ (aa S).length cs_) (.slice ar (aa R).length cr));have K2:=hid (show Kp (fun k=>k=g) wc ((wc.setCell ⟨g,0,none⟩ (.slice as_ (aa S).length cs_)).setCell ⟨g,1,none⟩ (.slice ar (aa R).length cr)) from(gN g 0 (.slice as_ (aa S).length cs_)).trans (gN g 1 (.slice ar (aa R).length cr)) (fun _ _ h=>h));have HE1:=hid hE1;clear hE1;go_upto_region 2 with fail
  clear c0 c1 c2 c3 c4 f0 f1;generalize (wc.setCell ⟨g,0,none⟩ (.slice as_ (aa S).length cs_)).setCell ⟨g,1,none⟩ (.slice ar (aa R).length cr)=w2 at *;have L:=H4.out;have hBw:=HB.out;have hBg:=HBg.out;have Lc:=L.below hb.out;have R1:=hr.out.mono hBw;have D1:=hq.out.mono hBw;have nvs:¬ At (.slice as_ (aa S).length cs_) g:=HE.out.apart L.s;have nvp:¬ At vp g:=HE.out.apart L.p;have nvq:¬ At (.slice aq (aa Q).length cq) g:=HE.out.apart L.q;have nu3:¬ At (.slice ar (aa R).length cr) g:=HE1.out.apart R1;have nu2:¬ At u2 g:=HE1.out.apart D1;have S2:=Lc.s.kp K2.out (fun k hk e=>nvs (e▸hk));have P2:=Lc.p.kp K2.out (fun k hk e=>nvp (e▸hk));have Q2:=Lc.q.kp K2.out (fun k hk e=>nvq (e▸hk));have R2:=R1.kp K2.out (fun k hk e=>nu3 (e▸hk));have D2:=D1.kp K2.out (fun k hk e=>nu2 (e▸hk));have A1:Apt (.slice ar (aa R).length cr) (.slice as_ (aa S).length cs_):=fo hr.out (.slice as_ (aa S).length cs_) (fun k hk=>(L.s.at hk).2);have A2:Apt (.slice ar (aa R).length cr) vp:=fo hr.out vp (fun k hk=>(L.p.at hk).2);have A3:Apt (.slice ar (aa R).length cr) (.slice aq (aa Q).length cq):=fo hr.out (.slice aq (aa Q).length cq) (fun k hk=>(L.q.at hk).2);have b1:B≤wc.heap.size:=Nat.le_trans hBw hb.out.size;have b2:B≤w2.heap.size:=Nat.le_trans b1 K2.out.size;have HM:=hid (iw u2 (.slice aq (aa Q).length cq) D Q (by omega) (by omega) w2 D2.rd Q2.rd);have HBl2:=hid (show Below B w w2 from(hb.out.mono hBw).trans (K2.out.below b1 (fun k e=>e▸hBg)));obtain ⟨HS2,HP2,HQ2,HR2,HA1,HA2,HA3,HL,Hb2⟩:=bR S2 P2 Q2 R2 A1 A2 A3 L b2;clear Lc L R1 D1 nvs nvp nvq nu3 nu2 S2 P2 Q2 R2 D2 A1 A2 A3 b1 b2 hBw hBg;obtain⟨c0,c1,c2,c3,c4⟩:=HE2.out.cells;go_wp2_with fail
  refine HM.out.mono ?_;rintro e w3 ⟨pv,rfl,hpv,hb3⟩;clear c0 c1 c2 c3 c4;have E3:=HE2.out.below hb3;have S3:=HS2.out.below hb3;have P3:=HP2.out.below hb3;have Q3:=HQ2.out.below hb3;have R3:=HR2.out.below hb3;have X3:=hpv.mono Hb2.out;have A4:Apt pv vp:=fo hpv vp (fun k hk=>(HP2.out.at hk).2);have A5:Apt pv (.slice as_ (aa S).length cs_):=fo hpv (.slice as_ (aa S).length cs_) (fun k hk=>(HS2.out.at hk).2);have A6:Apt pv (.slice aq (aa Q).length cq):=fo hpv (.slice aq (aa Q).length cq) (fun k hk=>(HQ2.out.at hk).2);have A7:Apt pv (.slice ar (aa R).length cr):=fo hpv (.slice ar (aa R).length cr) (fun k hk=>(HR2.out.at hk).2);have b3:B≤w3.heap.size:=Nat.le_trans Hb2.out hb3.size
  have HBL:=hid (jo B vp pv (aa P) (aa (D*Q)) 1 1 0 0 (P+D*Q) 0 w3 (by decide) (by decide) (by decide) (by decide) (by decide) (by decide) (by decide) (by decide)
   (aQ _) (aQ _) (by omega) (by omega) (by rw[aC,aC,Int.one_mul,Int.one_mul,Int.natCast_add]) (by rw[Int.zero_mul,Int.zero_mul];rfl) P3 X3 A4.symm b3)
  have HBl3:=hid (show Below B w w3 from HBl2.out.trans (hb3.mono Hb2.out));obtain⟨c0,c1,c2,c3,c4⟩:=E3.cells;obtain ⟨HE3,HS3,HP3,HQ3,HR3,HX3,HA4,HA5,HA6⟩:=bR E3 S3 P3 Q3 R3 X3 A4 A5 A6;have HA7:=hid A7;have Hb3:=hid b3;clear E3 S3 P3 Q3 R3 X3 A4 A5 A6 A7 b3 hpv hb3;go_wp2_with fail
  refine HBL.out.mono ?_;rintro e w4 ⟨n1,n2,rfl,h41,_,_,hno1,_,hk4⟩;obtain⟨an,cn,rfl⟩:=aU h41.rd;clear c0 c1 c2 c3 c4;have L:=HL.out;have hBg:=HBg.out;have E4:=HE3.out.kp hk4 (fun h=>h.elim (HE3.out.apart HP3.out) (HE3.out.apart HX3.out));have S4:=HS3.out.kp hk4 (fun k hk h=>h.elim (fun h=>L.sp k hk h) (fun h=>HA5.out k h hk));have Q4:=HQ3.out.kp hk4 (fun k hk h=>h.elim (fun h=>L.pq k h hk) (fun h=>HA6.out k h hk));have R4:=HR3.out.kp hk4 (fun k hk h=>h.elim (fun h=>HA2.out k hk h) (fun h=>HA7.out k h hk));have T1:Apt (.slice an (aa (P+D*Q)).length cn) (.slice as_ (aa S).length cs_):=L.sp.symm.newOr hno1 (fun k hk=>(HS3.out.at hk).2);have T2:Apt (.slice an (aa (P+D*Q)).length cn) (.slice aq (aa Q).length cq):=L.pq.newOr hno1 (fun k hk=>(HQ3.out.at hk).2);have T3:Apt (.slice an (aa (P+D*Q)).length cn) (.slice ar (aa R).length cr):=HA2.out.symm.newOr hno1 (fun k hk=>(HR3.out.at hk).2);have HBl4:=hid (show Below B w w4 from HBl3.out.trans (hk4.below Hb3.out (fun k h=>h.elim (fun h=>(HP3.out.at h).1) (fun h=>(HX3.out.at h).1))));have b4:B≤w4.heap.size:=Nat.le_trans Hb3.out hk4.size;obtain⟨c0,c1,c2,c3,c4⟩:=E4.cells;have f2:=E4.free 2;have f3:=E4.free 3;have HE5:=hid (E4.set23 (.slice aq (aa Q).length cq) (.slice an (aa (P+D*Q)).length cn));have K5:=hid (show Kp (fun k=>k=g) w4 ((w4.setCell ⟨g,2,none⟩ (.slice aq (aa Q).length cq)).setCell ⟨g,3,none⟩ (.slice an (aa (P+D*Q)).length cn)) from(gN g 2 (.slice aq (aa Q).length cq)).trans (gN g 3 (.slice an (aa (P+D*Q)).length cn)) (fun _ _ h=>h));obtain ⟨HE4,HS4,HQ4,HR4,HN4,HT1,HT2,HT3,Hb4⟩:=bR E4 S4 Q4 R4 h41 T1 T2 T3 b4;clear L hBg E4 S4 Q4 R4 T1 T2 T3 b4 h41 hno1 hk4;go_upto_region 5 with fail
  clear c0 c1 c2 c3 c4 f2 f3;generalize (w4.setCell ⟨g,2,none⟩ (.slice aq (aa Q).length cq)).setCell ⟨g,3,none⟩ (.slice an (aa (P+D*Q)).length cn)=w5 at *;obtain⟨c0,c1,c2,c3,c4⟩:=HE5.out.cells;have f4:=HE5.out.free 4;go_wp2;go_end0
  have L:=HL.out;have K6:Kp (fun k=>k=g) w4 (w5.setCell ⟨g,4,none⟩ (.bool (!n))):=K5.out.trans (gN g 4 (.bool (!n))) (fun _ _ h=>h);refine⟨rfl,⟨(.slice as_ (aa S).length cs_),(.slice ar (aa R).length cr),(.slice aq (aa Q).length cq),(.slice an (aa (P+D*Q)).length cn),HE5.out.set4 (!n),HBg.out,?_⟩,HBl4.out.trans (K6.below Hb4.out (fun k e=>e▸HBg.out))⟩
  exact⟨HS4.out.kp K6 (fun k hk e=>HE4.out.apart HS4.out (e▸hk)),HR4.out.kp K6 (fun k hk e=>HE4.out.apart HR4.out (e▸hk)),HQ4.out.kp K6 (fun k hk e=>HE4.out.apart HQ4.out (e▸hk)),HN4.out.kp K6 (fun k hk e=>HE4.out.apart HN4.out (e▸hk)),
   HA1.out.symm,L.sq,HT1.out.symm,HA3.out,HT3.out.symm,HT2.out.symm⟩
open Go.Lib (hid)
theorem Kp.undrew {S:Nat→Prop}{a b:World}(h:Kp S a.drew b):Kp S a b:=⟨h.os,h.tape,h.output,h.size,h.block⟩
theorem jk {w:World}{g k a b c d:Nat}{o n:Bool}{vf vs vp vq:Value}(h:Eb w g vf vs vp vq n)(hs:Sb w k a b c d o):g≠k:=by
 intro e;subst e;unfold Eb at h
 unfold Sb at hs
 rw[h]at hs;injection hs with hs
 injection hs with e1 e2 e3
 exact absurd e2 (by decide)
theorem xN {w w':World}{k a b c d:Nat}{o:Bool}(hs:Sb w k a b c d o){Z:Nat→Prop}(hk:Kp Z w w')(hn:¬ Z k):Sb w' k a b c d o:=by
 unfold Sb at *
 rw[hk.block k (Array.getElem?_eq_some_iff.1 hs).1 hn];exact hs
theorem ku {w:World}{k a b c d B:Nat}{o:Bool}{v:Value}{xs:List Nat}(h:Sb w k a b c d o)(ho:Own .u64 115 B w v xs):¬ At v k:=by
 intro hg;obtain⟨_,h2⟩:=ho;rcases h2 with⟨rfl,_⟩|⟨j,cap,cur,rfl,_,hh,_⟩
 · exact at_nil _ _ _ hg
 · rw[fH]at hg
   subst hg;unfold Sb at h
   rw[h]at hh;injection hh with hh
   injection hh with e1 e2 e3
   exact absurd e2 (by decide)
theorem St4.blendPQ {B g k:Nat}{w w':World}{vf vs vp vq u1 u2:Value}{F S P Q P' Q' a b c d:Nat}{n o:Bool}(L:St4 B w vf vs vp vq F S P Q)(E:Eb w g vf vs vp vq n)(K:Sb w k a b c d o)(hB:B≤w.heap.size)
 (o1:Own .u64 115 B w' u1 (aa P')) (o2:Own .u64 115 B w' u2 (aa Q')) (ap:Apt u1 u2) (n1:fV w vp u1) (n2:fV w vq u2) (hk:Kp (fun g=>At vp g∨At vq g) w w') :
 St4 B w' vf vs u1 u2 F S P' Q'∧Eb w' g vf vs vp vq n∧Sb w' k a b c d o∧Below B w w' :=
 ⟨⟨L.f.kp hk (fun _ h1 h2=>h2.elim (L.fp _ h1) (L.fq _ h1)),L.s.kp hk (fun _ h1 h2=>h2.elim (L.sp _ h1) (L.sq _ h1)),o1,o2,L.fs,(L.fp.symm.newOr n1 (fun _ h=>(L.f.at h).2)).symm,(L.fq.symm.newOr n2 (fun _ h=>(L.f.at h).2)).symm,
   (L.sp.symm.newOr n1 (fun _ h=>(L.s.at h).2)).symm,(L.sq.symm.newOr n2 (fun _ h=>(L.s.at h).2)).symm,ap⟩,
  E.kp hk (fun h=>h.elim (E.apart L.p) (E.apart L.q)),xN K hk (fun h=>h.elim (ku K L.p) (ku K L.q)),hk.below hB (fun _ h=>h.elim (fun h=>(L.p.at h).1) (fun h=>(L.q.at h).1))⟩
theorem St4.blendFS {B g k:Nat}{w w':World}{vf vs vp vq u1 u2:Value}{F S P Q F' S' a b c d:Nat}{n o:Bool}(L:St4 B w vf vs vp vq F S P Q)(E:Eb w g vf vs vp vq n)(K:Sb w k a b c d o)(hB:B≤w.heap.size)
 (o1:Own .u64 115 B w' u1 (aa F')) (o2:Own .u64 115 B w' u2 (aa S')) (ap:Apt u1 u2) (n1:fV w vf u1) (n2:fV w vs u2) (hk:Kp (fun g=>At vf g∨At vs g) w w') :
 St4 B w' u1 u2 vp vq F' S' P Q∧Eb w' g vf vs vp vq n∧Sb w' k a b c d o∧Below B w w' :=
 ⟨⟨o1,o2,L.p.kp hk (fun _ h1 h2=>h2.elim (fun h=>L.fp _ h h1) (fun h=>L.sp _ h h1)),L.q.kp hk (fun _ h1 h2=>h2.elim (fun h=>L.fq _ h h1) (fun h=>L.sq _ h h1)),ap,L.fp.newOr n1 (fun _ h=>(L.p.at h).2),L.fq.newOr n1 (fun _ h=>(L.q.at h).2),
   L.sp.newOr n2 (fun _ h=>(L.p.at h).2),L.sq.newOr n2 (fun _ h=>(L.q.at h).2),L.pq⟩,
  E.kp hk (fun h=>h.elim (E.apart L.f) (E.apart L.s)),xN K hk (fun h=>h.elim (ku K L.f) (ku K L.s)),hk.below hB (fun _ h=>h.elim (fun h=>(L.f.at h).1) (fun h=>(L.s.at h).1))⟩
theorem St4.stored {B g:Nat}{w w':World}{vf vs vp vq wf ws wp wq:Value}{F S P Q:Nat}{n:Bool}(L:St4 B w vf vs vp vq F S P Q)(E:Eb w g wf ws wp wq n)(hk:Kp (fun k=>k=g) w w'):St4 B w' vf vs vp vq F S P Q :=
 L.kp hk (fun _ h e=>by subst e;exact h.elim (E.apart L.f) (fun h=>h.elim (E.apart L.s) (fun h=>h.elim (E.apart L.p) (E.apart L.q))))
theorem yn (B g F S P Q a b c d f s:Nat)(n:Bool)(hm:Made a b c d false F S f s)(hf:Fac a b c d)(hd9:d≤1000000000)(hlF:(aa F).length≤80000)(hlS:(aa S).length≤80000)(hlP:(aa P).length≤80000)(hlQ:(aa Q).length≤80000)(w:World)(h:EuSt B w g F S P Q n)(hB:B≤w.heap.size) :
 Calls Tryz.prog 186 #[.pointer (some ⟨g,0,none⟩),.agg #[.int .u64 (a:Int),.int .u64 (b:Int),.int .u64 (c:Int),.int .u64 (d:Int),.bool false]] w fun e w'=>e=.returned (.tuple #[])∧Hid (EuSt B w' g f s (a*P+b*Q) (c*P+d*Q) (n != false))∧Below B w w':=by
 obtain⟨ha9,hb9,hc9⟩:=hf.le hd9 (by omega);obtain⟨vf,vs,vp,vq,hE,hBg,h4⟩:=h;obtain⟨e1,e2⟩:=hm.even;obtain ⟨HE1,HE2,HBg,HB⟩:=aP e1 e2 hBg hB;have hw0:=(Below.refl w.heap.size w).alloc (Nat.le_refl _) (.cells #[.int .u64 (a:Int),.int .u64 (b:Int),.int .u64 (c:Int),.int .u64 (d:Int),.bool false] 179);obtain ⟨HEb,H4,HS,HW⟩:=aP (hE.below hw0) (h4.below hw0) (kr w a b c d false) (hw0.mono hB);have HZ:=hid (show B≤(w.alloc (.cells #[.int .u64 (a:Int),.int .u64 (b:Int),.int .u64 (c:Int),.int .u64 (d:Int),.bool false] 179)).heap.size by rw[World.size_alloc];omega);clear hm hf e1 e2 hBg hB hw0 hE h4;obtain⟨s0,s1,s2,s3,s4⟩:=bE HS.out;obtain⟨k,hk⟩:∃ k,k=w.heap.size:=⟨_,rfl⟩;rw[← hk]at HS s0 s1 s2 s3 s4;have HK:=hid hk;go_enter Tryz.func186,Tryz.ntmps186
 go_upto_region 1 with fail
 rw[← hk];clear hk;generalize w.alloc (.cells #[.int .u64 (a:Int),.int .u64 (b:Int),.int .u64 (c:Int),.int .u64 (d:Int),.bool false] 179)=w0 at *;go_wp2;go_quiet (fail)
 have HEb:=hid (show Eb (w0.drewN nq) g vf vs vp vq n from HEb.out);have H4:=hid (show St4 B (w0.drewN nq) vf vs vp vq F S P Q from H4.out.kp ((Kp.refl (fun _=>False) w0).drewN nq) (fun _ _ h=>h));have HS:=hid (show Sb (w0.drewN nq) k a b c d false from HS.out);have HW:=hid (show Below B w (w0.drewN nq) from below_drewN' HW.out nq);have HZ:=hid (show B≤(w0.drewN nq).heap.size from HZ.out);clear s0 s1 s2 s3 s4;generalize w0.drewN nq=w1 at *
 have HBl:=hid (jo B vp vq (aa P) (aa Q) a b c d (a*P+b*Q) (c*P+d*Q) w1.drew (by omega) (by omega) (by omega) (by omega) (by omega) (by omega) (by omega) (by omega)
  (aQ _) (aQ _) (by omega) (by omega) (by rw[aC,aC,Int.natCast_add,Int.natCast_mul,Int.natCast_mul]) (by rw[aC,aC,Int.natCast_add,Int.natCast_mul,Int.natCast_mul]) H4.out.p H4.out.q H4.out.pq HZ.out)
 obtain⟨c0,c1,c2,c3,c4⟩:=HEb.out.cells;go_upto_region 2 with fail
 go_cut [20] (fun _ wx=>∃ vp vq:Value,Hid (Eb wx g vf vs vp vq n)∧Hid (St4 B wx vf vs vp vq F S (a*P+b*Q) (c*P+d*Q))∧Hid (Sb wx k a b c d false)∧Hid (Below B w wx))
 case first =>
  go_region_with (go_at_call 211;go_must (refine HBl.out.mono ?_;rintro e w2 ⟨u1,u2,rfl,o1,o2,ap,n1,n2,hk⟩;obtain⟨r1,r2,r3,r4⟩:=H4.out.blendPQ HEb.out HS.out HZ.out o1 o2 ap n1 n2 (Kp.undrew hk);obtain⟨x1,y1,rfl⟩:=aU o1.rd;obtain⟨x2,y2,rfl⟩:=aU o2.rd;have R1:=hid r1;have R2:=hid r2;have R3:=hid r3;have R4:=hid r4;obtain⟨d0,d1,d2,d3,d4⟩:=r2.cells;have f2:=r2.free 2;have f3:=r2.free 3;clear o1 o2 ap n1 n2 hk r1 r2 r3 r4))
  all_goals
   have K:=(gN (w:=w2) g 2 (.slice x1 (aa (a*P+b*Q)).length y1)).trans (gN g 3 (.slice x2 (aa (c*P+d*Q)).length y2)) (fun _ _ h=>h);have E':=hid (R2.out.set23 (.slice x1 (aa (a*P+b*Q)).length y1) (.slice x2 (aa (c*P+d*Q)).length y2));have L':=hid (R1.out.stored R2.out K);have S':=hid (xN R3.out K (fun e=>jk R2.out R3.out e.symm));have W':=hid (HW.out.trans (R4.out.trans (K.below (Nat.le_trans HZ.out R4.out.size) (fun _ e=>e▸HBg.out))));clear d0 d1 d2 d3 d4 f2 f3 K;go_wp2_with fail
   go_meet
   exact⟨_,_,E',L',S',W'⟩
 case rest =>
  clear HEb H4 HS HW HZ c0 c1 c2 c3 c4 HBl;obtain⟨vp,vq,HEb,H4,HS,HW⟩:=hcut;have HZ:=hid (Nat.le_trans HB.out HW.out.size)
  have HBl:=hid (jo B vf vs (aa F) (aa S) ((a:Int)) (-(b:Int)) (-(c:Int)) ((d:Int)) f s wc.drew (by omega) (by omega) (by omega) (by omega) (by omega) (by omega) (by omega) (by omega)
   (aQ _) (aQ _) (by omega) (by omega) (by rw[aC,aC];exact HE1.out) (by rw[aC,aC];exact HE2.out) H4.out.f H4.out.s H4.out.fs HZ.out)
  obtain⟨c0,c1,c2,c3,c4⟩:=HEb.out.cells;obtain⟨s0,s1,s2,s3,s4⟩:=bE HS.out;have v1:IntKind.i64.wrap (-(a:Int)) = -(a:Int):=IntWalk.i64_in _ (by omega);have v2:IntKind.i64.wrap (-(b:Int)) = -(b:Int):=IntWalk.i64_in _ (by omega);have v3:IntKind.i64.wrap (-(c:Int)) = -(c:Int):=IntWalk.i64_in _ (by omega);have v4:IntKind.i64.wrap (-(d:Int)) = -(d:Int):=IntWalk.i64_in _ (by omega);have v5:IntKind.i64.wrap (b:Int)=(b:Int):=IntWalk.i64_in _ (by omega);have v6:IntKind.i64.wrap (c:Int)=(c:Int):=IntWalk.i64_in _ (by omega);go_upto_region 5 with fail
  go_cut [52] (fun _ wx=>∃ vf vs:Value,Hid (Eb wx g vf vs vp vq n)∧Hid (St4 B wx vf vs vp vq f s (a*P+b*Q) (c*P+d*Q))∧Hid (Sb wx k a b c d false)∧Hid (Below B w wx))
  case first =>
   go_region_with (go_at_call 211;go_must (refine HBl.out.mono ?_;rintro e w2 ⟨u1,u2,rfl,o1,o2,ap,n1,n2,hk⟩;obtain⟨r1,r2,r3,r4⟩:=H4.out.blendFS HEb.out HS.out HZ.out o1 o2 ap n1 n2 (Kp.undrew hk);obtain⟨x1,y1,rfl⟩:=aU o1.rd;obtain⟨x2,y2,rfl⟩:=aU o2.rd;have R1:=hid r1;have R2:=hid r2;have R3:=hid r3;have R4:=hid r4;obtain⟨d0,d1,d2,d3,d4⟩:=r2.cells;have f0:=r2.free 0;have f1:=r2.free 1;clear o1 o2 ap n1 n2 hk r1 r2 r3 r4))
   all_goals
        have K:=(gN (w:=w2) g 0 (.slice x1 (aa f).length y1)).trans (gN g 1 (.slice x2 (aa s).length y2)) (fun _ _ h=>h);obtain ⟨E',L'⟩:=aD (R2.out.set01 (.slice x1 (aa f).length y1) (.slice x2 (aa s).length y2)) (R1.out.stored R2.out K);have S':=hid (xN R3.out K (fun e=>jk R2.out R3.out e.symm));have W':=hid (HW.out.trans (R4.out.trans (K.below (Nat.le_trans HZ.out R4.out.size) (fun _ e=>e▸HBg.out))));clear d0 d1 d2 d3 d4 f0 f1 K;go_wp2_with fail
        go_meet
        exact⟨_,_,E',L',S',W'⟩
  case rest =>
   clear HEb H4 HS HW HZ c0 c1 c2 c3 c4 HBl s0 s1 s2 s3 s4 v1 v2 v3 v4 v5 v6;obtain⟨vf,vs,HEb,H4,HS,HW⟩:=hcut;obtain⟨c0,c1,c2,c3,c4⟩:=HEb.out.cells;obtain⟨s0,s1,s2,s3,s4⟩:=bE HS.out;have f4:=HEb.out.free 4;go_wp2;go_region
   all_goals
        clear c0 c1 c2 c3 c4 s0 s1 s2 s3 s4 f4;go_wp2;go_end0
        have K:Kp (fun k=>k=g) wc (wc.setCell ⟨g,4,none⟩ (.bool n)).drew:=(gN g 4 (.bool n)).drew;refine⟨rfl,⟨vf,vs,vp,vq,?_,HBg.out,H4.out.stored HEb.out K⟩,HW.out.trans (K.below (Nat.le_trans HB.out HW.out.size) (fun _ e=>e▸HBg.out))⟩;have E:=HEb.out.set4 n;have e:(n != false)=n:=by cases n<;>rfl
        rw[e];exact E
end Go.Proofs.YthbdjinlcgnebaaGreatDoor
open Go.Lib (hid)
namespace Go.Proofs.YthbdjinlcgnebaaGreatDoor
open Go.RowKit Go.Gb
theorem z0p (B g F S P Q a b c d f s:Nat)(n:Bool)(hm:Made a b c d true F S f s)(hf:Fac a b c d)(hd9:d≤1000000000)(hlF:(aa F).length≤80000)(hlS:(aa S).length≤80000)(hlP:(aa P).length≤80000)(hlQ:(aa Q).length≤80000)(w:World)(h:EuSt B w g F S P Q n)(hB:B≤w.heap.size) :
 Calls Tryz.prog 186 #[.pointer (some ⟨g,0,none⟩),.agg #[.int .u64 (a:Int),.int .u64 (b:Int),.int .u64 (c:Int),.int .u64 (d:Int),.bool true]] w fun e w'=>e=.returned (.tuple #[])∧Hid (EuSt B w' g f s (a*P+b*Q) (c*P+d*Q) (n != true))∧Below B w w':=by
 obtain⟨ha9,hb9,hc9⟩:=hf.le hd9 (by omega);obtain⟨vf,vs,vp,vq,hE,hBg,h4⟩:=h;obtain⟨e1,e2⟩:=hm.odd;obtain ⟨HE1,HE2,HBg,HB⟩:=aP e1 e2 hBg hB;have hw0:=(Below.refl w.heap.size w).alloc (Nat.le_refl _) (.cells #[.int .u64 (a:Int),.int .u64 (b:Int),.int .u64 (c:Int),.int .u64 (d:Int),.bool true] 179);obtain ⟨HEb,H4,HS,HW⟩:=aP (hE.below hw0) (h4.below hw0) (kr w a b c d true) (hw0.mono hB);have HZ:=hid (show B≤(w.alloc (.cells #[.int .u64 (a:Int),.int .u64 (b:Int),.int .u64 (c:Int),.int .u64 (d:Int),.bool true] 179)).heap.size by rw[World.size_alloc];omega);clear hm hf e1 e2 hBg hB hw0 hE h4;obtain⟨s0,s1,s2,s3,s4⟩:=bE HS.out;obtain⟨k,hk⟩:∃ k,k=w.heap.size:=⟨_,rfl⟩;rw[← hk]at HS s0 s1 s2 s3 s4;have HK:=hid hk;go_enter Tryz.func186,Tryz.ntmps186
 go_upto_region 1 with fail
 rw[← hk];clear hk;generalize w.alloc (.cells #[.int .u64 (a:Int),.int .u64 (b:Int),.int .u64 (c:Int),.int .u64 (d:Int),.bool true] 179)=w0 at *;go_wp2;go_quiet (fail)
 have HEb:=hid (show Eb (w0.drewN nq) g vf vs vp vq n from HEb.out);have H4:=hid (show St4 B (w0.drewN nq) vf vs vp vq F S P Q from H4.out.kp ((Kp.refl (fun _=>False) w0).drewN nq) (fun _ _ h=>h));have HS:=hid (show Sb (w0.drewN nq) k a b c d true from HS.out);have HW:=hid (show Below B w (w0.drewN nq) from below_drewN' HW.out nq);have HZ:=hid (show B≤(w0.drewN nq).heap.size from HZ.out);clear s0 s1 s2 s3 s4;generalize w0.drewN nq=w1 at *
 have HBl:=hid (jo B vp vq (aa P) (aa Q) a b c d (a*P+b*Q) (c*P+d*Q) w1.drew (by omega) (by omega) (by omega) (by omega) (by omega) (by omega) (by omega) (by omega)
  (aQ _) (aQ _) (by omega) (by omega) (by rw[aC,aC,Int.natCast_add,Int.natCast_mul,Int.natCast_mul]) (by rw[aC,aC,Int.natCast_add,Int.natCast_mul,Int.natCast_mul]) H4.out.p H4.out.q H4.out.pq HZ.out)
 obtain⟨c0,c1,c2,c3,c4⟩:=HEb.out.cells;go_upto_region 2 with fail
 go_cut [20] (fun _ wx=>∃ vp vq:Value,Hid (Eb wx g vf vs vp vq n)∧Hid (St4 B wx vf vs vp vq F S (a*P+b*Q) (c*P+d*Q))∧Hid (Sb wx k a b c d true)∧Hid (Below B w wx))
 case first =>
  go_region_with (go_at_call 211;go_must (refine HBl.out.mono ?_;rintro e w2 ⟨u1,u2,rfl,o1,o2,ap,n1,n2,hk⟩;obtain⟨r1,r2,r3,r4⟩:=H4.out.blendPQ HEb.out HS.out HZ.out o1 o2 ap n1 n2 (Kp.undrew hk);obtain⟨x1,y1,rfl⟩:=aU o1.rd;obtain⟨x2,y2,rfl⟩:=aU o2.rd;have R1:=hid r1;have R2:=hid r2;have R3:=hid r3;have R4:=hid r4;obtain⟨d0,d1,d2,d3,d4⟩:=r2.cells;have f2:=r2.free 2;have f3:=r2.free 3;clear o1 o2 ap n1 n2 hk r1 r2 r3 r4))
  all_goals
   have K:=(gN (w:=w2) g 2 (.slice x1 (aa (a*P+b*Q)).length y1)).trans (gN g 3 (.slice x2 (aa (c*P+d*Q)).length y2)) (fun _ _ h=>h);have E':=hid (R2.out.set23 (.slice x1 (aa (a*P+b*Q)).length y1) (.slice x2 (aa (c*P+d*Q)).length y2));have L':=hid (R1.out.stored R2.out K);have S':=hid (xN R3.out K (fun e=>jk R2.out R3.out e.symm));have W':=hid (HW.out.trans (R4.out.trans (K.below (Nat.le_trans HZ.out R4.out.size) (fun _ e=>e▸HBg.out))));clear d0 d1 d2 d3 d4 f2 f3 K;go_wp2_with fail
   go_meet
   exact⟨_,_,E',L',S',W'⟩
 case rest =>
  clear HEb H4 HS HW HZ c0 c1 c2 c3 c4 HBl;obtain⟨vp,vq,HEb,H4,HS,HW⟩:=hcut;have HZ:=hid (Nat.le_trans HB.out HW.out.size)
  have HBl:=hid (jo B vf vs (aa F) (aa S) (-(a:Int)) ((b:Int)) ((c:Int)) (-(d:Int)) f s wc.drew (by omega) (by omega) (by omega) (by omega) (by omega) (by omega) (by omega) (by omega)
   (aQ _) (aQ _) (by omega) (by omega) (by rw[aC,aC];exact HE1.out) (by rw[aC,aC];exact HE2.out) H4.out.f H4.out.s H4.out.fs HZ.out)
  obtain⟨c0,c1,c2,c3,c4⟩:=HEb.out.cells;obtain⟨s0,s1,s2,s3,s4⟩:=bE HS.out;have v1:IntKind.i64.wrap (-(a:Int)) = -(a:Int):=IntWalk.i64_in _ (by omega);have v2:IntKind.i64.wrap (-(b:Int)) = -(b:Int):=IntWalk.i64_in _ (by omega);have v3:IntKind.i64.wrap (-(c:Int)) = -(c:Int):=IntWalk.i64_in _ (by omega);have v4:IntKind.i64.wrap (-(d:Int)) = -(d:Int):=IntWalk.i64_in _ (by omega);have v5:IntKind.i64.wrap (b:Int)=(b:Int):=IntWalk.i64_in _ (by omega);have v6:IntKind.i64.wrap (c:Int)=(c:Int):=IntWalk.i64_in _ (by omega);go_upto_region 5 with fail
  go_cut [52] (fun _ wx=>∃ vf vs:Value,Hid (Eb wx g vf vs vp vq n)∧Hid (St4 B wx vf vs vp vq f s (a*P+b*Q) (c*P+d*Q))∧Hid (Sb wx k a b c d true)∧Hid (Below B w wx))
  case first =>
   go_region_with (go_at_call 211;go_must (refine HBl.out.mono ?_;rintro e w2 ⟨u1,u2,rfl,o1,o2,ap,n1,n2,hk⟩;obtain⟨r1,r2,r3,r4⟩:=H4.out.blendFS HEb.out HS.out HZ.out o1 o2 ap n1 n2 (Kp.undrew hk);obtain⟨x1,y1,rfl⟩:=aU o1.rd;obtain⟨x2,y2,rfl⟩:=aU o2.rd;have R1:=hid r1;have R2:=hid r2;have R3:=hid r3;have R4:=hid r4;obtain⟨d0,d1,d2,d3,d4⟩:=r2.cells;have f0:=r2.free 0;have f1:=r2.free 1;clear o1 o2 ap n1 n2 hk r1 r2 r3 r4))
   all_goals
        have K:=(gN (w:=w2) g 0 (.slice x1 (aa f).length y1)).trans (gN g 1 (.slice x2 (aa s).length y2)) (fun _ _ h=>h);obtain ⟨E',L'⟩:=aD (R2.out.set01 (.slice x1 (aa f).length y1) (.slice x2 (aa s).length y2)) (R1.out.stored R2.out K);have S':=hid (xN R3.out K (fun e=>jk R2.out R3.out e.symm));have W':=hid (HW.out.trans (R4.out.trans (K.below (Nat.le_trans HZ.out R4.out.size) (fun _ e=>e▸HBg.out))));clear d0 d1 d2 d3 d4 f0 f1 K;go_wp2_with fail
        go_meet
        exact⟨_,_,E',L',S',W'⟩
  case rest =>
   clear HEb H4 HS HW HZ c0 c1 c2 c3 c4 HBl s0 s1 s2 s3 s4 v1 v2 v3 v4 v5 v6;obtain⟨vf,vs,HEb,H4,HS,HW⟩:=hcut;obtain⟨c0,c1,c2,c3,c4⟩:=HEb.out.cells;obtain⟨s0,s1,s2,s3,s4⟩:=bE HS.out;have f4:=HEb.out.free 4;go_wp2;go_region
   all_goals
        clear c0 c1 c2 c3 c4 s0 s1 s2 s3 s4 f4;go_wp2;go_end0
        have K:Kp (fun k=>k=g) wc (wc.setCell ⟨g,4,none⟩ (.bool (!n))).drew:=(gN g 4 (.bool (!n))).drew;refine⟨rfl,⟨vf,vs,vp,vq,?_,HBg.out,H4.out.stored HEb.out K⟩,HW.out.trans (K.below (Nat.le_trans HB.out HW.out.size) (fun _ e=>e▸HBg.out))⟩;have E:=HEb.out.set4 (!n);have e:(n != true)=(!n):=by cases n<;>rfl
        rw[e];exact E
open Go.Lib (hid)
theorem z4s (B g F S P Q a b c d f s:Nat)(n o:Bool)(hm:Made a b c d o F S f s)(hf:Fac a b c d)(hd9:d≤1000000000)(hlF:(aa F).length≤80000)(hlS:(aa S).length≤80000)(hlP:(aa P).length≤80000)(hlQ:(aa Q).length≤80000)(w:World)(h:EuSt B w g F S P Q n)(hB:B≤w.heap.size) :
 Calls Tryz.prog 186 #[.pointer (some ⟨g,0,none⟩),.agg #[.int .u64 (a:Int),.int .u64 (b:Int),.int .u64 (c:Int),.int .u64 (d:Int),.bool o]] w fun e w'=>e=.returned (.tuple #[])∧Hid (EuSt B w' g f s (a*P+b*Q) (c*P+d*Q) (n != o))∧Below B w w':=by
 cases o with
 | false=>exact yn B g F S P Q a b c d f s n hm hf hd9 hlF hlS hlP hlQ w h hB
 | true=>exact z0p B g F S P Q a b c d f s n hm hf hd9 hlF hlS hlP hlQ w h hB
theorem EuSt.kp {B g F S P Q:Nat}{n:Bool}{w w':World}(h:EuSt B w g F S P Q n){Z:Nat→Prop}(hk:Kp Z w w')(hg:¬ Z g)(hn:∀ {v:Value} {xs:List Nat},Own .u64 115 B w v xs→∀ k,At v k→¬ Z k):EuSt B w' g F S P Q n:=by
 obtain⟨vf,vs,vp,vq,hE,hBg,L⟩:=h;exact⟨vf,vs,vp,vq,hE.kp hk hg,hBg,L.kp hk (fun k h=>h.elim (hn L.f k) (fun h=>h.elim (hn L.s k) (fun h=>h.elim (hn L.p k) (hn L.q k))))⟩
theorem EuSt.below {B g F S P Q:Nat}{n:Bool}{w w':World}(h:EuSt B w g F S P Q n)(hb:Below w.heap.size w w'):EuSt B w' g F S P Q n :=
 h.kp (Z:=fun _=>False) (Kp.of_below hb) (fun h=>h) (fun _ _ _ h=>h)
theorem z3o {w:World}(g a b c d:Nat)(o:Bool):Kp (fun k=>k=g) w (set5 w g a b c d o) :=
 (((((Kp.refl (fun k=>k=g) w).set (p:=⟨g,0,none⟩) (fun _=>rfl) _).set (p:=⟨g,1,none⟩) (fun _=>rfl) _).set (p:=⟨g,2,none⟩) (fun _=>rfl) _).set (p:=⟨g,3,none⟩) (fun _=>rfl) _).set (p:=⟨g,4,none⟩) (fun _=>rfl) _
theorem EuSt.set5 {B g k F S P Q a b c d:Nat}{o n:Bool}{w:World}(h:EuSt B w g F S P Q n)(hs:Sb w k a b c d o)(a' b' c' d':Nat)(o':Bool):EuSt B (set5 w k a' b' c' d' o') g F S P Q n:=by
 obtain⟨vf,vs,vp,vq,hE,_,_⟩:=id h;exact h.kp (z3o k a' b' c' d' o') (jk hE hs) (fun ho j hj e=>ku hs ho (e▸hj))
theorem EuSt.alloc {B g F S P Q:Nat}{n:Bool}{w:World}(h:EuSt B w g F S P Q n)(x:Obj):EuSt B (w.alloc x) g F S P Q n:=h.below ((Below.refl _ w).alloc (Nat.le_refl _) x)
theorem EuSt.drew {B g F S P Q:Nat}{n:Bool}{w:World}(h:EuSt B w g F S P Q n):EuSt B w.drew g F S P Q n:=h.below ((Below.refl _ w).drew)
def EuN (k G F S:Nat):Prop:=k=F+S∧S≤F∧Nat.gcd F S=G
theorem z0j {B g F S P Q a b c d:Nat}{n o:Bool}{w w1:World}(h:EuSt B w g F S P Q n)(hB:B≤w.heap.size)(hb:Below w.drew.heap.size w.drew w1) :
 Sb (w1.alloc (.cells #[.int .u64 (a:Int),.int .u64 (b:Int),.int .u64 (c:Int),.int .u64 (d:Int),.bool o] 179)) w1.heap.size a b c d o∧EuSt B (w1.alloc (.cells #[.int .u64 (a:Int),.int .u64 (b:Int),.int .u64 (c:Int),.int .u64 (d:Int),.bool o] 179)) g F S P Q n ∧
 Below B w (w1.alloc (.cells #[.int .u64 (a:Int),.int .u64 (b:Int),.int .u64 (c:Int),.int .u64 (d:Int),.bool o] 179)) :=
 ⟨kr w1 a b c d o,(h.drew.below hb).alloc _,((Below.refl B w).drew.trans (hb.mono hB)).alloc (Nat.le_trans hB hb.size) _⟩
theorem z0i {B g F S P Q a b c d:Nat}{n o:Bool}{w w1:World}(h:EuSt B w g F S P Q n)(hB:B≤w.heap.size)(hb:Below (w.alloc (.cells #[.int .u64 0,.int .u64 0,.int .u64 0,.int .u64 0,.bool false] 179)).drew.heap.size (w.alloc (.cells #[.int .u64 0,.int .u64 0,.int .u64 0,.int .u64 0,.bool false] 179)).drew w1) :
 Sb (set5 w1 w.heap.size a b c d o) w.heap.size a b c d o∧EuSt B (set5 w1 w.heap.size a b c d o) g F S P Q n∧Below B w (set5 w1 w.heap.size a b c d o):=by
 have hs:Sb w1 w.heap.size 0 0 0 0 false:=bG (ut (kr w 0 0 0 0 false)) hb;have he:EuSt B w1 g F S P Q n:=((h.alloc _).drew).below hb;refine⟨fZ hs a b c d o,he.set5 hs a b c d o,dA ?_ hB a b c d o⟩;exact(((Below.refl B w).alloc hB _).drew).trans (hb.mono (Nat.le_trans hB (by show _≤(World.alloc _ _).heap.size;rw[World.size_alloc];omega)))
theorem eRun (I:Nat→Nat→Nat→Nat→Bool→Prop)(hI:Keeps I)(B g F S P Q:Nat)(n:Bool)(h0:I F S P Q n)(w:World)(h:EuSt B w g F S P Q n)(hB:B≤w.heap.size) :
 Calls Tryz.prog 155 #[.pointer (some ⟨g,0,none⟩)] w fun e w'=>∃ (P' Q':Nat) (n':Bool),e=.returned (.tuple #[])∧Hid (EuSt B w' g (Nat.gcd F S) 0 P' Q' n')∧Hid (I (Nat.gcd F S) 0 P' Q' n')∧Below B w w':=by
 obtain ⟨HI,H0,HE,HB⟩:=aP hI h0 h hB;obtain⟨l1,l2,l3,l4⟩:=hI.len F S P Q n h0;obtain⟨vf,vs,vp,vq,hE,hBg,L⟩:=h;have HLs:=hid (mQ vf vs F S (by omega) w.drew L.f.rd L.s.rd);obtain⟨c0,c1,c2,c3,c4⟩:=hE.cells;clear hI h0 hB hE L hBg l1 l2 l3 l4;go_enter Tryz.func155,Tryz.ntmps155
 go_upto_region 0 with fail
 go_cut [11] (fun v wx=>v=.bool (decide (F<S))∧Hid (EuSt B wx g F S P Q n)∧Hid (Below B w wx))
 case first =>
  go_region_with (go_at_call 183;go_must (refine HLs.out.mono ?_;rintro e w1 ⟨rfl,hb1⟩))
  all_goals
   have E':=hid (HE.out.drew.below hb1);have B':=hid (show Below B w w1 from(Below.refl B w).drew.trans (hb1.mono HB.out));clear hb1;go_wp2_with fail
   go_meet
   exact⟨rfl,E',B'⟩
 case rest =>
  clear c0 c1 c2 c3 c4 HLs HE;obtain⟨rfl,HE,HW⟩:=hcut;go_upto_if 11 with fail
  go_cut [12] (fun _ wx=>∃ (F' S' P' Q':Nat) (n':Bool),Hid (EuN (F+S) (Nat.gcd F S) F' S')∧Hid (EuSt B wx g F' S' P' Q' n')∧Hid (I F' S' P' Q' n')∧Hid (Below B w wx))
  case first =>
   by_cases hFS:F<S
   · rw[decide_eq_true hFS]
     obtain⟨l1,l2,l3,l4⟩:=HI.out.len F S P Q n H0.out;have hn:=HI.out.div F S P Q n (by omega) H0.out;have ln:=HI.out.len _ _ _ _ _ hn;have HDv:=hid (z0o B g F S P Q n (by omega) l1 l3 l4 ln.2.2.2 wc HE.out (Nat.le_trans HB.out HW.out.size));rw[Nat.mod_eq_of_lt hFS]at hn HDv;have HN:=hid hn;have HA:=hid (show EuN (F+S) (Nat.gcd F S) S F from⟨Nat.add_comm _ _,Nat.le_of_lt hFS,Nat.gcd_comm _ _⟩);clear hn ln l1 l2 l3 l4 hFS;go_wp2_with fail
     refine HDv.out.mono ?_;rintro e w2 ⟨rfl,hE2,hb2⟩;have HW2:=hid (HW.out.trans hb2);clear hb2;go_wp2_with fail
     go_meet
     exact⟨S,F,Q,_,_,HA,hE2,HN,HW2⟩
   · rw[decide_eq_false hFS]
     have HA:=hid (show EuN (F+S) (Nat.gcd F S) F S from⟨rfl,by omega,rfl⟩);clear hFS;go_wp2_with fail
     go_meet
     exact⟨F,S,P,Q,n,HA,HE,H0,HW⟩
  case rest =>
   clear HE HW H0;obtain⟨F0,S0,P0,Q0,n0,hA0,hE0,hI0,hW0⟩:=hcut;go_wp2;go_loopg [2] (F+S) (fun k _ wr=>∃ (F' S' P' Q':Nat) (n':Bool),Hid (EuN k (Nat.gcd F S) F' S')∧Hid (EuSt B wr g F' S' P' Q' n')∧Hid (I F' S' P' Q' n')∧Hid (Below B w wr))
   case atStart=>exact⟨F0,S0,P0,Q0,n0,hA0,hE0,hI0,hW0⟩
   case round =>
        obtain⟨F1,S1,P1,Q1,n1,hA,hE,hJ,hW⟩:=hrel;clear hA0 hE0 hI0 hW0;obtain⟨vf,vs,vp,vq,hEb,hBg,L⟩:=hE.out;obtain⟨af,cf,rfl⟩:=aU L.f.rd;obtain⟨as_,cs_,rfl⟩:=aU L.s.rd;obtain⟨c0,c1,c2,c3,c4⟩:=hEb.cells;obtain⟨l1,l2,l3,l4⟩:=HI.out.len _ _ _ _ _ hJ.out;by_cases hS1:S1=0
        · subst hS1
          rw[aS,show([]:List Nat).length=0 from rfl]at c1;clear hEb L hBg c0 c2 c3 c4 l1 l2 l3 l4;have hg:=hA.out.2.2;rw[Nat.gcd_zero_right]at hg;have HG:=hid hg;clear hg;go_wp2;go_end0
          exact⟨P1,Q1,n1,rfl,by rw[← HG.out];exact hE,by rw[← HG.out];exact hJ,hW.out⟩
        · have hm:0<(aa S1).length:=by rw[bN hS1];simp
          have HFo:=hid (nO _ _ F1 S1 hS1 hA.out.2.1 l1 wr.drew L.f.rd L.s.rd);have HFo2:=hid (nO _ _ F1 S1 hS1 hA.out.2.1 l1 (wr.alloc (.cells #[.int .u64 0,.int .u64 0,.int .u64 0,.int .u64 0,.bool false] 179)).drew (L.f.rd.below ((Below.refl _ wr).alloc (Nat.le_refl _) _).drew) (L.s.rd.below ((Below.refl _ wr).alloc (Nat.le_refl _) _).drew));unfold Stp at HFo HFo2
          obtain ⟨hZ,HS1⟩:=aD (Nat.le_trans HB.out hW.out.size) hS1;generalize (aa S1).length=m at *;generalize (aa F1).length=mf at *;have hgw:=hEb.lt;have GA:=hid (show g<wr.drew.heap.size from hgw);have GB:=hid (show g<(wr.alloc (.cells #[.int .u64 0,.int .u64 0,.int .u64 0,.int .u64 0,.bool false] 179)).drew.heap.size by show _<(World.alloc _ _).heap.size;rw[World.size_alloc];omega);have DA0:=hid (show wr.drew.cell? ⟨g,0,none⟩=some (.slice af mf cf) from c0);have DA1:=hid (show wr.drew.cell? ⟨g,1,none⟩=some (.slice as_ m cs_) from c1);have DB0:=hid (show(wr.alloc (.cells #[.int .u64 0,.int .u64 0,.int .u64 0,.int .u64 0,.bool false] 179)).drew.cell? ⟨g,0,none⟩=some (.slice af mf cf) by rw[pJ,mE hgw];exact c0);have DB1:=hid (show(wr.alloc (.cells #[.int .u64 0,.int .u64 0,.int .u64 0,.int .u64 0,.bool false] 179)).drew.cell? ⟨g,1,none⟩=some (.slice as_ m cs_) by rw[pJ,mE hgw];exact c1);clear hEb L hBg l1 l2 l3 l4 hS1;go_upto_region 3 with fail
          go_cut [2]from 14 to 36 (fun v2 wx=>∃ (k a b c d:Nat) (o:Bool),v2=.pointer (some ⟨k,0,none⟩)∧Hid (Sb wx k a b c d o)∧Hid (EuSt B wx g F1 S1 P1 Q1 n1)∧Hid (Seen F1 S1 a b c d o)∧Hid (Below B w wx))
          case first =>
           go_region_held3 (fun w'=>w'.cell? ⟨g,0,none⟩=some (.slice af mf cf)∧w'.cell? ⟨g,1,none⟩=some (.slice as_ m cs_)) (first|((try go_split_ands);refine⟨?_,?_⟩<;>(first|(with_reducible assumption)|((repeat (first|rw[pJ]|rw[mE (by first|assumption|omega|(simp;done)|(simp;omega))]|rw[z2X (by omega)]));first|(with_reducible assumption)|(simp;done))))|(go_keep;done))
            (first
               | (go_at_call 185;(refine(HFo.out).mono ?_);rintro e w1 ⟨a,b,c,d,o,rfl,hSeen,hb1⟩;have u6:=hid hb1;obtain⟨hc1,hf1⟩:=wbc hb1;have hz1:=hb1.size;(try simp at hz1);have d0:w1.cell? ⟨g,0,none⟩=some (.slice af mf cf):=(hc1 _ _ GA.out).trans DA0.out;have d1:w1.cell? ⟨g,1,none⟩=some (.slice as_ m cs_):=(hc1 _ _ GA.out).trans DA1.out)
               | (go_at_call 185;(refine(HFo2.out).mono ?_);rintro e w1 ⟨a,b,c,d,o,rfl,hSeen,hb1⟩;have u6:=hid hb1;obtain⟨hc1,hf1⟩:=wbc hb1;have hz1:=hb1.size;(try simp at hz1);have d0:w1.cell? ⟨g,0,none⟩=some (.slice af mf cf):=(hc1 _ _ GB.out).trans DB0.out;have d1:w1.cell? ⟨g,1,none⟩=some (.slice as_ m cs_):=(hc1 _ _ GB.out).trans DB1.out))
           · obtain⟨q1,q2,q3⟩:=z0j (a:=a) (b:=b) (c:=c) (d:=d) (o:=o) hE.out hZ.out u6.out
             obtain ⟨Q1,Q2,Q3⟩:=ae q1 q2 (hW.out.trans q3);clear q1 q2 q3;go_wp2_with fail
             go_meet
             exact⟨_,a,b,c,d,o,rfl,Q1,Q2,hSeen,Q3⟩
           · obtain⟨q1,q2,q3⟩:=z0i (a:=a) (b:=b) (c:=c) (d:=d) (o:=o) hE.out hZ.out u6.out
             obtain ⟨Q1,Q2,Q3⟩:=ae q1 q2 (hW.out.trans q3);clear q1 q2 q3;go_wp2_with fail
             go_meet
             exact⟨_,a,b,c,d,o,rfl,Q1,Q2,hSeen,Q3⟩
          case rest =>
           clear hE hW hZ c0 c1 c2 c3 c4 HFo HFo2 hgw;obtain⟨k,a,b,c,d,o,rfl,hS,hE,hSeen,hW⟩:=hcut;have hZ:=Nat.le_trans HB.out hW.out.size;obtain⟨s0,s1,s2,s3,s4⟩:=bE hS.out;obtain⟨l1,l2,l3,l4⟩:=HI.out.len _ _ _ _ _ hJ.out;obtain⟨hk,hle,hg⟩:=hA.out;by_cases hb:b=0
           · have hbz:((b:Int)==0)=true:=beq_iff_eq.2 (by omega)
             have hn:=HI.out.div F1 S1 P1 Q1 n1 HS1.out hJ.out;have ln:=HI.out.len _ _ _ _ _ hn;have HDv:=hid (z0o B g F1 S1 P1 Q1 n1 HS1.out l1 l3 l4 ln.2.2.2 wc hE.out hZ);have hlt:=Nat.mod_lt F1 (Nat.pos_of_ne_zero HS1.out);have HA:=hid (show EuN (S1+F1%S1) (Nat.gcd F S) S1 (F1%S1) from⟨rfl,Nat.le_of_lt hlt,by rw[← hg,Nat.gcd_comm S1,← Nat.gcd_rec,Nat.gcd_comm]⟩);have HLt:=hid (show S1+F1%S1<gk by omega);have HN:=hid hn;clear hn ln hlt hk hle hg l1 l2 l3 l4 hb hZ;go_wp2_with fail
             refine HDv.out.mono ?_;rintro e w2 ⟨rfl,hE2,hb2⟩;have HW2:=hid (hW.out.trans hb2);clear hb2;go_wp2;go_roundg (S1+F1%S1)
             case measure=>exact HLt.out
             case rel=>exact⟨S1,F1%S1,Q1,_,_,HA,hE2,HN,HW2⟩
           · have hbz:((b:Int)==0)=false:=beq_eq_false_iff_ne.2 (by omega)
             have hF1:F1≠0:=by have:=HS1.out;omega
             obtain⟨f,s,hm,hsf,hFac,hD,hd9⟩:=hSeen.out.resolve_left hb;have hn:=HI.out.app F1 S1 P1 Q1 n1 a b c d o f s hF1 hb hm hD hFac hsf hJ.out;have HAp:=hid (z4s B g F1 S1 P1 Q1 a b c d f s n1 o hm hFac hd9 l1 l2 l3 l4 wc hE.out hZ);have HA:=hid (show EuN (f+s) (Nat.gcd F S) f s from⟨rfl,hsf,by rw[hm.gcd hD,hg]⟩);have HLt:=hid (show f+s<gk by have:=hm.less hD hFac hb hF1 hsf;omega);have HN:=hid hn;clear hn hk hle hg l1 l2 l3 l4 hb hZ hF1 hm hsf hFac hD hd9;go_wp2_with fail
             refine HAp.out.mono ?_;rintro e w2 ⟨rfl,hE2,hb2⟩;have HW2:=hid (hW.out.trans hb2);clear hb2;go_wp2;go_roundg (f+s)
             case measure=>exact HLt.out
             case rel=>exact⟨f,s,_,_,_,HA,hE2,HN,HW2⟩
