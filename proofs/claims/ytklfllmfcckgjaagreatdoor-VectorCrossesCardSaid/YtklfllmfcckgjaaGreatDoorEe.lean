/- The state of Euclid's algorithm; (*euclid).divide: walks. -/
import Derived.Test.YtklfllmfcckgjaaGreatDoorEd
set_option maxRecDepth 100000
set_option maxHeartbeats 20000000
open Go.Lib (hid)
namespace Go.Proofs.YtklfllmfcckgjaaGreatDoor
open Go.RowKit Go.Gb
def Eb (w:World) (g:Nat) (vf vs vp vq:Value) (n:Bool):Prop:=w.heap[g]? = some (.cells #[vf,vs,vp,vq,.bool n] 148 (0,0))
theorem Eb.lt {w:World}{g:Nat}{vf vs vp vq:Value}{n:Bool}(h:Eb w g vf vs vp vq n):g<w.heap.size:=(Array.getElem?_eq_some_iff.1 h).1
theorem Eb.cells {w:World}{g:Nat}{vf vs vp vq:Value}{n:Bool}(h:Eb w g vf vs vp vq n):w.cell? ⟨g,0,none⟩=some vf∧w.cell? ⟨g,1,none⟩=some vs∧w.cell? ⟨g,2,none⟩=some vp∧w.cell? ⟨g,3,none⟩=some vq∧w.cell? ⟨g,4,none⟩=some (.bool n):=by
 unfold Eb at h
 refine⟨?_,?_,?_,?_,?_⟩<;>simp[World.cell?,h]
theorem Eb.free {w:World}{g:Nat}{vf vs vp vq:Value}{n:Bool}(h:Eb w g vf vs vp vq n)(i:Nat):w.frozen? ⟨g,i,none⟩=false:=by
 unfold Eb at h
 simp only[World.frozen?,h]
 simp
theorem Eb.kp {w w':World}{g:Nat}{vf vs vp vq:Value}{n:Bool}(h:Eb w g vf vs vp vq n){S:Nat→Prop}(hk:Kp S w w')(hn:¬ S g):Eb w' g vf vs vp vq n:=by
 unfold Eb at *
 rw[hk.block g (Array.getElem?_eq_some_iff.1 h).1 hn]
 exact h
theorem Eb.below {w w':World}{g:Nat}{vf vs vp vq:Value}{n:Bool}(h:Eb w g vf vs vp vq n)(hb:Below w.heap.size w w'):Eb w' g vf vs vp vq n:=h.kp (S:=fun _=>False) (Kp.of_below hb) (fun h=>h)
theorem Eb.set01 {w:World}{g:Nat}{vf vs vp vq:Value}{n:Bool}(h:Eb w g vf vs vp vq n)(a b:Value):Eb ((w.setCell ⟨g,0,none⟩ a).setCell ⟨g,1,none⟩ b) g a b vp vq n:=by
 unfold Eb at *
 simp only[World.setCell,Array.getElem?_modify,h]
 simp
theorem Eb.set23 {w:World}{g:Nat}{vf vs vp vq:Value}{n:Bool}(h:Eb w g vf vs vp vq n)(a b:Value):Eb ((w.setCell ⟨g,2,none⟩ a).setCell ⟨g,3,none⟩ b) g vf vs a b n:=by
 unfold Eb at *
 simp only[World.setCell,Array.getElem?_modify,h]
 simp
theorem Eb.set4 {w:World}{g:Nat}{vf vs vp vq:Value}{n:Bool}(h:Eb w g vf vs vp vq n)(m:Bool):Eb (w.setCell ⟨g,4,none⟩ (.bool m)) g vf vs vp vq m:=by
 unfold Eb at *
 simp only[World.setCell,Array.getElem?_modify,h]
 simp
theorem Eb.apart {w:World}{g B:Nat}{vf vs vp vq v:Value}{n:Bool}{xs:List Nat}(h:Eb w g vf vs vp vq n)(ho:Own .u64 137 B w v xs):¬ At v g:=by
 intro hg
 obtain⟨_,h2⟩:=ho
 rcases h2 with⟨rfl,_⟩|⟨k,cap,cur,rfl,_,hh,_⟩
 · exact at_nil _ _ _ hg
 · rw[at_some]at hg
   subst hg
   unfold Eb at h
   rw[h]at hh
   injection hh with hh
   injection hh with e1 e2 e3
   exact absurd e2 (by decide)
structure St4 (B:Nat) (w:World) (vf vs vp vq:Value) (F S P Q:Nat):Prop where
 f:Own .u64 137 B w vf (digs F)
 s:Own .u64 137 B w vs (digs S)
 p:Own .u64 137 B w vp (digs P)
 q:Own .u64 137 B w vq (digs Q)
 fs:Apt vf vs
 fp:Apt vf vp
 fq:Apt vf vq
 sp:Apt vs vp
 sq:Apt vs vq
 pq:Apt vp vq
theorem St4.below {B:Nat}{w w':World}{vf vs vp vq:Value}{F S P Q:Nat}(h:St4 B w vf vs vp vq F S P Q)(hb:Below w.heap.size w w'):St4 B w' vf vs vp vq F S P Q :=
 ⟨h.f.below hb,h.s.below hb,h.p.below hb,h.q.below hb,h.fs,h.fp,h.fq,h.sp,h.sq,h.pq⟩
theorem St4.kp {B:Nat}{w w':World}{vf vs vp vq:Value}{F S P Q:Nat}(h:St4 B w vf vs vp vq F S P Q){Z:Nat→Prop}(hk:Kp Z w w')(hn:∀ g,(At vf g∨At vs g∨At vp g∨At vq g)→¬ Z g):St4 B w' vf vs vp vq F S P Q :=
 ⟨h.f.kp hk (fun g hg=>hn g (Or.inl hg)),h.s.kp hk (fun g hg=>hn g (Or.inr (Or.inl hg))),h.p.kp hk (fun g hg=>hn g (Or.inr (Or.inr (Or.inl hg)))),h.q.kp hk (fun g hg=>hn g (Or.inr (Or.inr (Or.inr hg)))),h.fs,h.fp,h.fq,h.sp,h.sq,h.pq⟩
theorem kp_set {w:World}(g i:Nat)(u:Value):Kp (fun k=>k=g) w (w.setCell ⟨g,i,none⟩ u):=(Kp.refl (fun k=>k=g) w).set (p:=⟨g,i,none⟩) (fun _=>rfl) u
def EuSt (B:Nat) (w:World) (g F S P Q:Nat) (n:Bool):Prop:=∃ vf vs vp vq,Eb w g vf vs vp vq n∧B≤g∧St4 B w vf vs vp vq F S P Q
theorem own_fresh {k:IntKind}{T:TypeId}{w0 w:World}{v:Value}{xs:List Nat}(h:Own k T w0.heap.size w v xs)(u:Value)(hu:∀ g,At u g→g<w0.heap.size):Apt v u:=Apt.fresh h.fresh hu
theorem eDivide (B g F S P Q:Nat)(n:Bool)(hS0:S≠0)(hlF:(digs F).length≤80000)(hlP:(digs P).length≤80000)(hlQ:(digs Q).length≤80000)(hlN:(digs (P+F / S*Q)).length≤80000)(w:World)(h:EuSt B w g F S P Q n)(hB:B≤w.heap.size) :
 Calls Tryz.prog 138 #[.pointer (some ⟨g,0,none⟩)] w fun e w'=>e=.returned (.tuple #[])∧Hid (EuSt B w' g S (F%S) Q (P+F / S*Q) (!n))∧Below B w w':=by
 obtain⟨vf,vs,vp,vq,hE,hBg,h4⟩:=h
 obtain⟨as_,cs_,rfl⟩:=rd_form h4.s.rd
 obtain⟨aq,cq,rfl⟩:=rd_form h4.q.rd
 have HDv:=hid (Divide_any vf (.slice as_ (digs S).length cs_) F S hS0 (by omega) w.drew h4.f.rd h4.s.rd)
 obtain⟨D,hD⟩:∃ D,D=F / S:=⟨_,rfl⟩
 obtain⟨R,hR⟩:∃ R,R=F%S:=⟨_,rfl⟩
 rw[← hD,← hR]at HDv
 rw[← hD]at hlN
 rw[← hD,← hR]
 have hlD:(digs D).length≤80000:=by
  rw[hD]
  exact Nat.le_trans (digs_length_mono (Nat.div_le_self F S)) hlF
 have hlX:(digs (D*Q)).length≤80000:=Nat.le_trans (digs_length_mono (Nat.le_add_left _ _)) hlN
 have HE:=hid hE
 have H4:=hid h4
 have HB:=hid hB
 have HBg:=hid hBg
 obtain⟨c0,c1,c2,c3,c4⟩:=hE.cells
 clear hD hR hE h4 hB hBg hS0 hlF
 go_enter Tryz.func138,Tryz.ntmps138
 go_upto_region 0 with fail
 go_cut [2,3] (fun v2 v3 wx=>∃ qv rv:Value,v2=qv∧v3=rv∧Hid (Own .u64 137 w.heap.size wx qv (digs D))∧Hid (Own .u64 137 w.heap.size wx rv (digs R))∧Hid (Below w.heap.size w wx))
 case first =>
  go_region_with (go_at_call 168;go_must (refine HDv.out.mono ?_;rintro e w1 ⟨qv,rv,rfl,hq,hr,hb1⟩))
  all_goals
   have HQ:=hid (show Own .u64 137 w.heap.size w1 qv (digs D) from hq)
   have HR:=hid (show Own .u64 137 w.heap.size w1 rv (digs R) from hr)
   have HB1:=hid (show Below w.heap.size w w1 from(Below.refl _ w).drew.trans hb1)
   clear hq hr hb1
   go_wp2_with fail
   go_meet
   exact⟨qv,rv,rfl,rfl,HQ,HR,HB1⟩
 case rest =>
  obtain⟨_,_,rfl,rfl,hq,hr,hb⟩:=hcut
  obtain⟨ar,cr,rfl⟩:=rd_form hr.out.rd
  clear c0 c1 c2 c3 c4
  have hE1:=HE.out.below hb.out
  obtain⟨c0,c1,c2,c3,c4⟩:=hE1.cells
  have f0:=hE1.free 0
  have f1:=hE1.free 1
  have HE2:=hid (hE1.set01 (.slice as_ (digs S).length cs_) (.slice ar (digs R).length cr))
  have K2:=hid (show Kp (fun k=>k=g) wc ((wc.setCell ⟨g,0,none⟩ (.slice as_ (digs S).length cs_)).setCell ⟨g,1,none⟩ (.slice ar (digs R).length cr)) from(kp_set g 0 (.slice as_ (digs S).length cs_)).trans (kp_set g 1 (.slice ar (digs R).length cr)) (fun _ _ h=>h))
  have HE1:=hid hE1
  clear hE1
  go_upto_region 2 with fail
  clear c0 c1 c2 c3 c4 f0 f1
  generalize (wc.setCell ⟨g,0,none⟩ (.slice as_ (digs S).length cs_)).setCell ⟨g,1,none⟩ (.slice ar (digs R).length cr)=w2 at *
  have L:=H4.out
  have hBw:=HB.out
  have hBg:=HBg.out
  have Lc:=L.below hb.out
  have R1:=hr.out.mono hBw
  have D1:=hq.out.mono hBw
  have nvs:¬ At (.slice as_ (digs S).length cs_) g:=HE.out.apart L.s
  have nvp:¬ At vp g:=HE.out.apart L.p
  have nvq:¬ At (.slice aq (digs Q).length cq) g:=HE.out.apart L.q
  have nu3:¬ At (.slice ar (digs R).length cr) g:=HE1.out.apart R1
  have nu2:¬ At u2 g:=HE1.out.apart D1
  have S2:=Lc.s.kp K2.out (fun k hk e=>nvs (e▸hk))
  have P2:=Lc.p.kp K2.out (fun k hk e=>nvp (e▸hk))
  have Q2:=Lc.q.kp K2.out (fun k hk e=>nvq (e▸hk))
  have R2:=R1.kp K2.out (fun k hk e=>nu3 (e▸hk))
  have D2:=D1.kp K2.out (fun k hk e=>nu2 (e▸hk))
  have A1:Apt (.slice ar (digs R).length cr) (.slice as_ (digs S).length cs_):=own_fresh hr.out (.slice as_ (digs S).length cs_) (fun k hk=>(L.s.at hk).2)
  have A2:Apt (.slice ar (digs R).length cr) vp:=own_fresh hr.out vp (fun k hk=>(L.p.at hk).2)
  have A3:Apt (.slice ar (digs R).length cr) (.slice aq (digs Q).length cq):=own_fresh hr.out (.slice aq (digs Q).length cq) (fun k hk=>(L.q.at hk).2)
  have b1:B≤wc.heap.size:=Nat.le_trans hBw hb.out.size
  have b2:B≤w2.heap.size:=Nat.le_trans b1 K2.out.size
  have HM:=hid (Multiply_any u2 (.slice aq (digs Q).length cq) D Q (by omega) (by omega) w2 D2.rd Q2.rd)
  have HBl2:=hid (show Below B w w2 from(hb.out.mono hBw).trans (K2.out.below b1 (fun k e=>e▸hBg)))
  have HS2:=hid S2
  have HP2:=hid P2
  have HQ2:=hid Q2
  have HR2:=hid R2
  have HA1:=hid A1
  have HA2:=hid A2
  have HA3:=hid A3
  have HL:=hid L
  have Hb2:=hid b2
  clear Lc L R1 D1 nvs nvp nvq nu3 nu2 S2 P2 Q2 R2 D2 A1 A2 A3 b1 b2 hBw hBg
  obtain⟨c0,c1,c2,c3,c4⟩:=HE2.out.cells
  go_wp2_with fail
  refine HM.out.mono ?_
  rintro e w3 ⟨pv,rfl,hpv,hb3⟩
  clear c0 c1 c2 c3 c4
  have E3:=HE2.out.below hb3
  have S3:=HS2.out.below hb3
  have P3:=HP2.out.below hb3
  have Q3:=HQ2.out.below hb3
  have R3:=HR2.out.below hb3
  have X3:=hpv.mono Hb2.out
  have A4:Apt pv vp:=own_fresh hpv vp (fun k hk=>(HP2.out.at hk).2)
  have A5:Apt pv (.slice as_ (digs S).length cs_):=own_fresh hpv (.slice as_ (digs S).length cs_) (fun k hk=>(HS2.out.at hk).2)
  have A6:Apt pv (.slice aq (digs Q).length cq):=own_fresh hpv (.slice aq (digs Q).length cq) (fun k hk=>(HQ2.out.at hk).2)
  have A7:Apt pv (.slice ar (digs R).length cr):=own_fresh hpv (.slice ar (digs R).length cr) (fun k hk=>(HR2.out.at hk).2)
  have b3:B≤w3.heap.size:=Nat.le_trans Hb2.out hb3.size
  have HBL:=hid (blend_any B vp pv (digs P) (digs (D*Q)) 1 1 0 0 (P+D*Q) 0 w3 (by decide) (by decide) (by decide) (by decide) (by decide) (by decide) (by decide) (by decide)
   (digs_lt _) (digs_lt _) (by omega) (by omega) (by rw[wval_digs,wval_digs,Int.one_mul,Int.one_mul,Int.natCast_add]) (by rw[Int.zero_mul,Int.zero_mul];rfl) P3 X3 A4.symm b3)
  have HBl3:=hid (show Below B w w3 from HBl2.out.trans (hb3.mono Hb2.out))
  obtain⟨c0,c1,c2,c3,c4⟩:=E3.cells
  have HE3:=hid E3
  have HS3:=hid S3
  have HP3:=hid P3
  have HQ3:=hid Q3
  have HR3:=hid R3
  have HX3:=hid X3
  have HA4:=hid A4
  have HA5:=hid A5
  have HA6:=hid A6
  have HA7:=hid A7
  have Hb3:=hid b3
  clear E3 S3 P3 Q3 R3 X3 A4 A5 A6 A7 b3 hpv hb3
  go_wp2_with fail
  refine HBL.out.mono ?_
  rintro e w4 ⟨n1,n2,rfl,h41,_,_,hno1,_,hk4⟩
  obtain⟨an,cn,rfl⟩:=rd_form h41.rd
  clear c0 c1 c2 c3 c4
  have L:=HL.out
  have hBg:=HBg.out
  have E4:=HE3.out.kp hk4 (fun h=>h.elim (HE3.out.apart HP3.out) (HE3.out.apart HX3.out))
  have S4:=HS3.out.kp hk4 (fun k hk h=>h.elim (fun h=>L.sp k hk h) (fun h=>HA5.out k h hk))
  have Q4:=HQ3.out.kp hk4 (fun k hk h=>h.elim (fun h=>L.pq k h hk) (fun h=>HA6.out k h hk))
  have R4:=HR3.out.kp hk4 (fun k hk h=>h.elim (fun h=>HA2.out k hk h) (fun h=>HA7.out k h hk))
  have T1:Apt (.slice an (digs (P+D*Q)).length cn) (.slice as_ (digs S).length cs_):=L.sp.symm.newOr hno1 (fun k hk=>(HS3.out.at hk).2)
  have T2:Apt (.slice an (digs (P+D*Q)).length cn) (.slice aq (digs Q).length cq):=L.pq.newOr hno1 (fun k hk=>(HQ3.out.at hk).2)
  have T3:Apt (.slice an (digs (P+D*Q)).length cn) (.slice ar (digs R).length cr):=HA2.out.symm.newOr hno1 (fun k hk=>(HR3.out.at hk).2)
  have HBl4:=hid (show Below B w w4 from HBl3.out.trans (hk4.below Hb3.out (fun k h=>h.elim (fun h=>(HP3.out.at h).1) (fun h=>(HX3.out.at h).1))))
  have b4:B≤w4.heap.size:=Nat.le_trans Hb3.out hk4.size
  obtain⟨c0,c1,c2,c3,c4⟩:=E4.cells
  have f2:=E4.free 2
  have f3:=E4.free 3
  have HE5:=hid (E4.set23 (.slice aq (digs Q).length cq) (.slice an (digs (P+D*Q)).length cn))
  have K5:=hid (show Kp (fun k=>k=g) w4 ((w4.setCell ⟨g,2,none⟩ (.slice aq (digs Q).length cq)).setCell ⟨g,3,none⟩ (.slice an (digs (P+D*Q)).length cn)) from(kp_set g 2 (.slice aq (digs Q).length cq)).trans (kp_set g 3 (.slice an (digs (P+D*Q)).length cn)) (fun _ _ h=>h))
  have HE4:=hid E4
  have HS4:=hid S4
  have HQ4:=hid Q4
  have HR4:=hid R4
  have HN4:=hid h41
  have HT1:=hid T1
  have HT2:=hid T2
  have HT3:=hid T3
  have Hb4:=hid b4
  clear L hBg E4 S4 Q4 R4 T1 T2 T3 b4 h41 hno1 hk4
  go_upto_region 5 with fail
  clear c0 c1 c2 c3 c4 f2 f3
  generalize (w4.setCell ⟨g,2,none⟩ (.slice aq (digs Q).length cq)).setCell ⟨g,3,none⟩ (.slice an (digs (P+D*Q)).length cn)=w5 at *
  obtain⟨c0,c1,c2,c3,c4⟩:=HE5.out.cells
  have f4:=HE5.out.free 4
  go_wp2
  go_end0
  have L:=HL.out
  have K6:Kp (fun k=>k=g) w4 (w5.setCell ⟨g,4,none⟩ (.bool (!n))):=K5.out.trans (kp_set g 4 (.bool (!n))) (fun _ _ h=>h)
  refine⟨rfl,⟨(.slice as_ (digs S).length cs_),(.slice ar (digs R).length cr),(.slice aq (digs Q).length cq),(.slice an (digs (P+D*Q)).length cn),HE5.out.set4 (!n),HBg.out,?_⟩,HBl4.out.trans (K6.below Hb4.out (fun k e=>e▸HBg.out))⟩
  exact⟨HS4.out.kp K6 (fun k hk e=>HE4.out.apart HS4.out (e▸hk)),HR4.out.kp K6 (fun k hk e=>HE4.out.apart HR4.out (e▸hk)),HQ4.out.kp K6 (fun k hk e=>HE4.out.apart HQ4.out (e▸hk)),HN4.out.kp K6 (fun k hk e=>HE4.out.apart HN4.out (e▸hk)),
   HA1.out.symm,L.sq,HT1.out.symm,HA3.out,HT3.out.symm,HT2.out.symm⟩
end Go.Proofs.YtklfllmfcckgjaaGreatDoor
