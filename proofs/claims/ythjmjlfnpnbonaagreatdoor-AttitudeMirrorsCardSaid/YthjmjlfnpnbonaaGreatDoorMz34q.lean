/- Texts of this proof, one behind the other. -/
import Derived.Test.YthjmjlfnpnbonaaGreatDoorMz33q
set_option maxRecDepth 100000
set_option maxHeartbeats 20000000
open Go.Lib (hid)
namespace Go.Proofs.YthjmjlfnpnbonaaGreatDoor
open Go.RowKit Go.Gb
theorem Kp.undrew {S:Nat→Prop}{a b:World}(h:Kp S a.drew b):Kp S a b:=⟨h.os,h.tape,h.output,h.size,h.block⟩
theorem eb_not_sb {w:World}{g k a b c d:Nat}{o n:Bool}{vf vs vp vq:Value}(h:Eb w g vf vs vp vq n)(hs:Sb w k a b c d o):g≠k:=by
 intro e
 subst e
 unfold Eb at h
 unfold Sb at hs
 rw[h]at hs
 injection hs with hs
 injection hs with e1 e2 e3
 exact absurd e2 (by decide)
theorem sb_kp {w w':World}{k a b c d:Nat}{o:Bool}(hs:Sb w k a b c d o){Z:Nat→Prop}(hk:Kp Z w w')(hn:¬ Z k):Sb w' k a b c d o:=by
 unfold Sb at *
 rw[hk.block k (Array.getElem?_eq_some_iff.1 hs).1 hn]
 exact hs
theorem sb_apart {w:World}{k a b c d B:Nat}{o:Bool}{v:Value}{xs:List Nat}(h:Sb w k a b c d o)(ho:Own .u64 110 B w v xs):¬ At v k:=by
 intro hg
 obtain⟨_,h2⟩:=ho
 rcases h2 with⟨rfl,_⟩|⟨j,cap,cur,rfl,_,hh,_⟩
 · exact at_nil _ _ _ hg
 · rw[at_some]at hg
   subst hg
   unfold Sb at h
   rw[h]at hh
   injection hh with hh
   injection hh with e1 e2 e3
   exact absurd e2 (by decide)
theorem St4.blendPQ {B g k:Nat}{w w':World}{vf vs vp vq u1 u2:Value}{F S P Q P' Q' a b c d:Nat}{n o:Bool}(L:St4 B w vf vs vp vq F S P Q)(E:Eb w g vf vs vp vq n)(K:Sb w k a b c d o)(hB:B≤w.heap.size)
 (o1:Own .u64 110 B w' u1 (digs P')) (o2:Own .u64 110 B w' u2 (digs Q')) (ap:Apt u1 u2) (n1:NewOr w vp u1) (n2:NewOr w vq u2) (hk:Kp (fun g=>At vp g∨At vq g) w w') :
 St4 B w' vf vs u1 u2 F S P' Q'∧Eb w' g vf vs vp vq n∧Sb w' k a b c d o∧Below B w w' :=
 ⟨⟨L.f.kp hk (fun _ h1 h2=>h2.elim (L.fp _ h1) (L.fq _ h1)),L.s.kp hk (fun _ h1 h2=>h2.elim (L.sp _ h1) (L.sq _ h1)),o1,o2,L.fs,(L.fp.symm.newOr n1 (fun _ h=>(L.f.at h).2)).symm,(L.fq.symm.newOr n2 (fun _ h=>(L.f.at h).2)).symm,
   (L.sp.symm.newOr n1 (fun _ h=>(L.s.at h).2)).symm,(L.sq.symm.newOr n2 (fun _ h=>(L.s.at h).2)).symm,ap⟩,
  E.kp hk (fun h=>h.elim (E.apart L.p) (E.apart L.q)),sb_kp K hk (fun h=>h.elim (sb_apart K L.p) (sb_apart K L.q)),hk.below hB (fun _ h=>h.elim (fun h=>(L.p.at h).1) (fun h=>(L.q.at h).1))⟩
theorem St4.blendFS {B g k:Nat}{w w':World}{vf vs vp vq u1 u2:Value}{F S P Q F' S' a b c d:Nat}{n o:Bool}(L:St4 B w vf vs vp vq F S P Q)(E:Eb w g vf vs vp vq n)(K:Sb w k a b c d o)(hB:B≤w.heap.size)
 (o1:Own .u64 110 B w' u1 (digs F')) (o2:Own .u64 110 B w' u2 (digs S')) (ap:Apt u1 u2) (n1:NewOr w vf u1) (n2:NewOr w vs u2) (hk:Kp (fun g=>At vf g∨At vs g) w w') :
 St4 B w' u1 u2 vp vq F' S' P Q∧Eb w' g vf vs vp vq n∧Sb w' k a b c d o∧Below B w w' :=
 ⟨⟨o1,o2,L.p.kp hk (fun _ h1 h2=>h2.elim (fun h=>L.fp _ h h1) (fun h=>L.sp _ h h1)),L.q.kp hk (fun _ h1 h2=>h2.elim (fun h=>L.fq _ h h1) (fun h=>L.sq _ h h1)),ap,L.fp.newOr n1 (fun _ h=>(L.p.at h).2),L.fq.newOr n1 (fun _ h=>(L.q.at h).2),
   L.sp.newOr n2 (fun _ h=>(L.p.at h).2),L.sq.newOr n2 (fun _ h=>(L.q.at h).2),L.pq⟩,
  E.kp hk (fun h=>h.elim (E.apart L.f) (E.apart L.s)),sb_kp K hk (fun h=>h.elim (sb_apart K L.f) (sb_apart K L.s)),hk.below hB (fun _ h=>h.elim (fun h=>(L.f.at h).1) (fun h=>(L.s.at h).1))⟩
theorem St4.stored {B g:Nat}{w w':World}{vf vs vp vq wf ws wp wq:Value}{F S P Q:Nat}{n:Bool}(L:St4 B w vf vs vp vq F S P Q)(E:Eb w g wf ws wp wq n)(hk:Kp (fun k=>k=g) w w'):St4 B w' vf vs vp vq F S P Q :=
 L.kp hk (fun _ h e=>by subst e;exact h.elim (E.apart L.f) (fun h=>h.elim (E.apart L.s) (fun h=>h.elim (E.apart L.p) (E.apart L.q))))
theorem eApplyEven (B g F S P Q a b c d f s:Nat)(n:Bool)(hm:Made a b c d false F S f s)(hf:Fac a b c d)(hd9:d≤1000000000)(hlF:(digs F).length≤80000)(hlS:(digs S).length≤80000)(hlP:(digs P).length≤80000)(hlQ:(digs Q).length≤80000)(w:World)(h:EuSt B w g F S P Q n)(hB:B≤w.heap.size) :
 Calls Tryz.prog 195 #[.pointer (some ⟨g,0,none⟩),.agg #[.int .u64 (a:Int),.int .u64 (b:Int),.int .u64 (c:Int),.int .u64 (d:Int),.bool false]] w fun e w'=>e=.returned (.tuple #[])∧Hid (EuSt B w' g f s (a*P+b*Q) (c*P+d*Q) (n != false))∧Below B w w':=by
 obtain⟨ha9,hb9,hc9⟩:=hf.le hd9 (by omega)
 obtain⟨vf,vs,vp,vq,hE,hBg,h4⟩:=h
 obtain⟨e1,e2⟩:=hm.even
 have HE1:=hid e1
 have HE2:=hid e2
 have HBg:=hid hBg
 have HB:=hid hB
 have hw0:=(Below.refl w.heap.size w).alloc (Nat.le_refl _) (.cells #[.int .u64 (a:Int),.int .u64 (b:Int),.int .u64 (c:Int),.int .u64 (d:Int),.bool false] 192)
 have HEb:=hid (hE.below hw0)
 have H4:=hid (h4.below hw0)
 have HS:=hid (sb_new w a b c d false)
 have HW:=hid (hw0.mono hB)
 have HZ:=hid (show B≤(w.alloc (.cells #[.int .u64 (a:Int),.int .u64 (b:Int),.int .u64 (c:Int),.int .u64 (d:Int),.bool false] 192)).heap.size by rw[World.size_alloc];omega)
 clear hm hf e1 e2 hBg hB hw0 hE h4
 obtain⟨s0,s1,s2,s3,s4⟩:=sb_cells HS.out
 obtain⟨k,hk⟩:∃ k,k=w.heap.size:=⟨_,rfl⟩
 rw[← hk]at HS s0 s1 s2 s3 s4
 have HK:=hid hk
 go_enter Tryz.func195,Tryz.ntmps195
 go_upto_region 1 with fail
 rw[← hk]
 clear hk
 generalize w.alloc (.cells #[.int .u64 (a:Int),.int .u64 (b:Int),.int .u64 (c:Int),.int .u64 (d:Int),.bool false] 192)=w0 at *
 go_wp2
 go_quiet (fail)
 have HEb:=hid (show Eb (w0.drewN nq) g vf vs vp vq n from HEb.out)
 have H4:=hid (show St4 B (w0.drewN nq) vf vs vp vq F S P Q from H4.out.kp ((Kp.refl (fun _=>False) w0).drewN nq) (fun _ _ h=>h))
 have HS:=hid (show Sb (w0.drewN nq) k a b c d false from HS.out)
 have HW:=hid (show Below B w (w0.drewN nq) from below_drewN' HW.out nq)
 have HZ:=hid (show B≤(w0.drewN nq).heap.size from HZ.out)
 clear s0 s1 s2 s3 s4
 generalize w0.drewN nq=w1 at *
 have HBl:=hid (blend_any B vp vq (digs P) (digs Q) a b c d (a*P+b*Q) (c*P+d*Q) w1.drew (by omega) (by omega) (by omega) (by omega) (by omega) (by omega) (by omega) (by omega)
  (digs_lt _) (digs_lt _) (by omega) (by omega) (by rw[wval_digs,wval_digs,Int.natCast_add,Int.natCast_mul,Int.natCast_mul]) (by rw[wval_digs,wval_digs,Int.natCast_add,Int.natCast_mul,Int.natCast_mul]) H4.out.p H4.out.q H4.out.pq HZ.out)
 obtain⟨c0,c1,c2,c3,c4⟩:=HEb.out.cells
 go_upto_region 2 with fail
 go_cut [20] (fun _ wx=>∃ vp vq:Value,Hid (Eb wx g vf vs vp vq n)∧Hid (St4 B wx vf vs vp vq F S (a*P+b*Q) (c*P+d*Q))∧Hid (Sb wx k a b c d false)∧Hid (Below B w wx))
 case first =>
  go_region_with (go_at_call 220;go_must (refine HBl.out.mono ?_;rintro e w2 ⟨u1,u2,rfl,o1,o2,ap,n1,n2,hk⟩;obtain⟨r1,r2,r3,r4⟩:=H4.out.blendPQ HEb.out HS.out HZ.out o1 o2 ap n1 n2 (Kp.undrew hk);obtain⟨x1,y1,rfl⟩:=rd_form o1.rd;obtain⟨x2,y2,rfl⟩:=rd_form o2.rd;have R1:=hid r1;have R2:=hid r2;have R3:=hid r3;have R4:=hid r4;obtain⟨d0,d1,d2,d3,d4⟩:=r2.cells;have f2:=r2.free 2;have f3:=r2.free 3;clear o1 o2 ap n1 n2 hk r1 r2 r3 r4))
  all_goals
   have K:=(kp_set (w:=w2) g 2 (.slice x1 (digs (a*P+b*Q)).length y1)).trans (kp_set g 3 (.slice x2 (digs (c*P+d*Q)).length y2)) (fun _ _ h=>h)
   have E':=hid (R2.out.set23 (.slice x1 (digs (a*P+b*Q)).length y1) (.slice x2 (digs (c*P+d*Q)).length y2))
   have L':=hid (R1.out.stored R2.out K)
   have S':=hid (sb_kp R3.out K (fun e=>eb_not_sb R2.out R3.out e.symm))
   have W':=hid (HW.out.trans (R4.out.trans (K.below (Nat.le_trans HZ.out R4.out.size) (fun _ e=>e▸HBg.out))))
   clear d0 d1 d2 d3 d4 f2 f3 K
   go_wp2_with fail
   go_meet
   exact⟨_,_,E',L',S',W'⟩
 case rest =>
  clear HEb H4 HS HW HZ c0 c1 c2 c3 c4 HBl
  obtain⟨vp,vq,HEb,H4,HS,HW⟩:=hcut
  have HZ:=hid (Nat.le_trans HB.out HW.out.size)
  have HBl:=hid (blend_any B vf vs (digs F) (digs S) ((a:Int)) (-(b:Int)) (-(c:Int)) ((d:Int)) f s wc.drew (by omega) (by omega) (by omega) (by omega) (by omega) (by omega) (by omega) (by omega)
   (digs_lt _) (digs_lt _) (by omega) (by omega) (by rw[wval_digs,wval_digs];exact HE1.out) (by rw[wval_digs,wval_digs];exact HE2.out) H4.out.f H4.out.s H4.out.fs HZ.out)
  obtain⟨c0,c1,c2,c3,c4⟩:=HEb.out.cells
  obtain⟨s0,s1,s2,s3,s4⟩:=sb_cells HS.out
  have v1:IntKind.i64.wrap (-(a:Int)) = -(a:Int):=IntWalk.i64_in _ (by omega)
  have v2:IntKind.i64.wrap (-(b:Int)) = -(b:Int):=IntWalk.i64_in _ (by omega)
  have v3:IntKind.i64.wrap (-(c:Int)) = -(c:Int):=IntWalk.i64_in _ (by omega)
  have v4:IntKind.i64.wrap (-(d:Int)) = -(d:Int):=IntWalk.i64_in _ (by omega)
  have v5:IntKind.i64.wrap (b:Int)=(b:Int):=IntWalk.i64_in _ (by omega)
  have v6:IntKind.i64.wrap (c:Int)=(c:Int):=IntWalk.i64_in _ (by omega)
  go_upto_region 5 with fail
  go_cut [52] (fun _ wx=>∃ vf vs:Value,Hid (Eb wx g vf vs vp vq n)∧Hid (St4 B wx vf vs vp vq f s (a*P+b*Q) (c*P+d*Q))∧Hid (Sb wx k a b c d false)∧Hid (Below B w wx))
  case first =>
   go_region_with (go_at_call 220;go_must (refine HBl.out.mono ?_;rintro e w2 ⟨u1,u2,rfl,o1,o2,ap,n1,n2,hk⟩;obtain⟨r1,r2,r3,r4⟩:=H4.out.blendFS HEb.out HS.out HZ.out o1 o2 ap n1 n2 (Kp.undrew hk);obtain⟨x1,y1,rfl⟩:=rd_form o1.rd;obtain⟨x2,y2,rfl⟩:=rd_form o2.rd;have R1:=hid r1;have R2:=hid r2;have R3:=hid r3;have R4:=hid r4;obtain⟨d0,d1,d2,d3,d4⟩:=r2.cells;have f0:=r2.free 0;have f1:=r2.free 1;clear o1 o2 ap n1 n2 hk r1 r2 r3 r4))
   all_goals
        have K:=(kp_set (w:=w2) g 0 (.slice x1 (digs f).length y1)).trans (kp_set g 1 (.slice x2 (digs s).length y2)) (fun _ _ h=>h)
        have E':=hid (R2.out.set01 (.slice x1 (digs f).length y1) (.slice x2 (digs s).length y2))
        have L':=hid (R1.out.stored R2.out K)
        have S':=hid (sb_kp R3.out K (fun e=>eb_not_sb R2.out R3.out e.symm))
        have W':=hid (HW.out.trans (R4.out.trans (K.below (Nat.le_trans HZ.out R4.out.size) (fun _ e=>e▸HBg.out))))
        clear d0 d1 d2 d3 d4 f0 f1 K
        go_wp2_with fail
        go_meet
        exact⟨_,_,E',L',S',W'⟩
  case rest =>
   clear HEb H4 HS HW HZ c0 c1 c2 c3 c4 HBl s0 s1 s2 s3 s4 v1 v2 v3 v4 v5 v6
   obtain⟨vf,vs,HEb,H4,HS,HW⟩:=hcut
   obtain⟨c0,c1,c2,c3,c4⟩:=HEb.out.cells
   obtain⟨s0,s1,s2,s3,s4⟩:=sb_cells HS.out
   have f4:=HEb.out.free 4
   go_wp2
   go_region
   all_goals
        clear c0 c1 c2 c3 c4 s0 s1 s2 s3 s4 f4
        go_wp2
        go_end0
        have K:Kp (fun k=>k=g) wc (wc.setCell ⟨g,4,none⟩ (.bool n)).drew:=(kp_set g 4 (.bool n)).drew
        refine⟨rfl,⟨vf,vs,vp,vq,?_,HBg.out,H4.out.stored HEb.out K⟩,HW.out.trans (K.below (Nat.le_trans HB.out HW.out.size) (fun _ e=>e▸HBg.out))⟩
        have E:=HEb.out.set4 n
        have e:(n != false)=n:=by cases n<;>rfl
        rw[e]
        exact E
end Go.Proofs.YthjmjlfnpnbonaaGreatDoor
set_option maxRecDepth 100000
set_option maxHeartbeats 20000000
open Go.Lib (hid)
namespace Go.Proofs.YthjmjlfnpnbonaaGreatDoor
open Go.RowKit Go.Gb
theorem eApplyOdd (B g F S P Q a b c d f s:Nat)(n:Bool)(hm:Made a b c d true F S f s)(hf:Fac a b c d)(hd9:d≤1000000000)(hlF:(digs F).length≤80000)(hlS:(digs S).length≤80000)(hlP:(digs P).length≤80000)(hlQ:(digs Q).length≤80000)(w:World)(h:EuSt B w g F S P Q n)(hB:B≤w.heap.size) :
 Calls Tryz.prog 195 #[.pointer (some ⟨g,0,none⟩),.agg #[.int .u64 (a:Int),.int .u64 (b:Int),.int .u64 (c:Int),.int .u64 (d:Int),.bool true]] w fun e w'=>e=.returned (.tuple #[])∧Hid (EuSt B w' g f s (a*P+b*Q) (c*P+d*Q) (n != true))∧Below B w w':=by
 obtain⟨ha9,hb9,hc9⟩:=hf.le hd9 (by omega)
 obtain⟨vf,vs,vp,vq,hE,hBg,h4⟩:=h
 obtain⟨e1,e2⟩:=hm.odd
 have HE1:=hid e1
 have HE2:=hid e2
 have HBg:=hid hBg
 have HB:=hid hB
 have hw0:=(Below.refl w.heap.size w).alloc (Nat.le_refl _) (.cells #[.int .u64 (a:Int),.int .u64 (b:Int),.int .u64 (c:Int),.int .u64 (d:Int),.bool true] 192)
 have HEb:=hid (hE.below hw0)
 have H4:=hid (h4.below hw0)
 have HS:=hid (sb_new w a b c d true)
 have HW:=hid (hw0.mono hB)
 have HZ:=hid (show B≤(w.alloc (.cells #[.int .u64 (a:Int),.int .u64 (b:Int),.int .u64 (c:Int),.int .u64 (d:Int),.bool true] 192)).heap.size by rw[World.size_alloc];omega)
 clear hm hf e1 e2 hBg hB hw0 hE h4
 obtain⟨s0,s1,s2,s3,s4⟩:=sb_cells HS.out
 obtain⟨k,hk⟩:∃ k,k=w.heap.size:=⟨_,rfl⟩
 rw[← hk]at HS s0 s1 s2 s3 s4
 have HK:=hid hk
 go_enter Tryz.func195,Tryz.ntmps195
 go_upto_region 1 with fail
 rw[← hk]
 clear hk
 generalize w.alloc (.cells #[.int .u64 (a:Int),.int .u64 (b:Int),.int .u64 (c:Int),.int .u64 (d:Int),.bool true] 192)=w0 at *
 go_wp2
 go_quiet (fail)
 have HEb:=hid (show Eb (w0.drewN nq) g vf vs vp vq n from HEb.out)
 have H4:=hid (show St4 B (w0.drewN nq) vf vs vp vq F S P Q from H4.out.kp ((Kp.refl (fun _=>False) w0).drewN nq) (fun _ _ h=>h))
 have HS:=hid (show Sb (w0.drewN nq) k a b c d true from HS.out)
 have HW:=hid (show Below B w (w0.drewN nq) from below_drewN' HW.out nq)
 have HZ:=hid (show B≤(w0.drewN nq).heap.size from HZ.out)
 clear s0 s1 s2 s3 s4
 generalize w0.drewN nq=w1 at *
 have HBl:=hid (blend_any B vp vq (digs P) (digs Q) a b c d (a*P+b*Q) (c*P+d*Q) w1.drew (by omega) (by omega) (by omega) (by omega) (by omega) (by omega) (by omega) (by omega)
  (digs_lt _) (digs_lt _) (by omega) (by omega) (by rw[wval_digs,wval_digs,Int.natCast_add,Int.natCast_mul,Int.natCast_mul]) (by rw[wval_digs,wval_digs,Int.natCast_add,Int.natCast_mul,Int.natCast_mul]) H4.out.p H4.out.q H4.out.pq HZ.out)
 obtain⟨c0,c1,c2,c3,c4⟩:=HEb.out.cells
 go_upto_region 2 with fail
 go_cut [20] (fun _ wx=>∃ vp vq:Value,Hid (Eb wx g vf vs vp vq n)∧Hid (St4 B wx vf vs vp vq F S (a*P+b*Q) (c*P+d*Q))∧Hid (Sb wx k a b c d true)∧Hid (Below B w wx))
 case first =>
  go_region_with (go_at_call 220;go_must (refine HBl.out.mono ?_;rintro e w2 ⟨u1,u2,rfl,o1,o2,ap,n1,n2,hk⟩;obtain⟨r1,r2,r3,r4⟩:=H4.out.blendPQ HEb.out HS.out HZ.out o1 o2 ap n1 n2 (Kp.undrew hk);obtain⟨x1,y1,rfl⟩:=rd_form o1.rd;obtain⟨x2,y2,rfl⟩:=rd_form o2.rd;have R1:=hid r1;have R2:=hid r2;have R3:=hid r3;have R4:=hid r4;obtain⟨d0,d1,d2,d3,d4⟩:=r2.cells;have f2:=r2.free 2;have f3:=r2.free 3;clear o1 o2 ap n1 n2 hk r1 r2 r3 r4))
  all_goals
   have K:=(kp_set (w:=w2) g 2 (.slice x1 (digs (a*P+b*Q)).length y1)).trans (kp_set g 3 (.slice x2 (digs (c*P+d*Q)).length y2)) (fun _ _ h=>h)
   have E':=hid (R2.out.set23 (.slice x1 (digs (a*P+b*Q)).length y1) (.slice x2 (digs (c*P+d*Q)).length y2))
   have L':=hid (R1.out.stored R2.out K)
   have S':=hid (sb_kp R3.out K (fun e=>eb_not_sb R2.out R3.out e.symm))
   have W':=hid (HW.out.trans (R4.out.trans (K.below (Nat.le_trans HZ.out R4.out.size) (fun _ e=>e▸HBg.out))))
   clear d0 d1 d2 d3 d4 f2 f3 K
   go_wp2_with fail
   go_meet
   exact⟨_,_,E',L',S',W'⟩
 case rest =>
  clear HEb H4 HS HW HZ c0 c1 c2 c3 c4 HBl
  obtain⟨vp,vq,HEb,H4,HS,HW⟩:=hcut
  have HZ:=hid (Nat.le_trans HB.out HW.out.size)
  have HBl:=hid (blend_any B vf vs (digs F) (digs S) (-(a:Int)) ((b:Int)) ((c:Int)) (-(d:Int)) f s wc.drew (by omega) (by omega) (by omega) (by omega) (by omega) (by omega) (by omega) (by omega)
   (digs_lt _) (digs_lt _) (by omega) (by omega) (by rw[wval_digs,wval_digs];exact HE1.out) (by rw[wval_digs,wval_digs];exact HE2.out) H4.out.f H4.out.s H4.out.fs HZ.out)
  obtain⟨c0,c1,c2,c3,c4⟩:=HEb.out.cells
  obtain⟨s0,s1,s2,s3,s4⟩:=sb_cells HS.out
  have v1:IntKind.i64.wrap (-(a:Int)) = -(a:Int):=IntWalk.i64_in _ (by omega)
  have v2:IntKind.i64.wrap (-(b:Int)) = -(b:Int):=IntWalk.i64_in _ (by omega)
  have v3:IntKind.i64.wrap (-(c:Int)) = -(c:Int):=IntWalk.i64_in _ (by omega)
  have v4:IntKind.i64.wrap (-(d:Int)) = -(d:Int):=IntWalk.i64_in _ (by omega)
  have v5:IntKind.i64.wrap (b:Int)=(b:Int):=IntWalk.i64_in _ (by omega)
  have v6:IntKind.i64.wrap (c:Int)=(c:Int):=IntWalk.i64_in _ (by omega)
  go_upto_region 5 with fail
  go_cut [52] (fun _ wx=>∃ vf vs:Value,Hid (Eb wx g vf vs vp vq n)∧Hid (St4 B wx vf vs vp vq f s (a*P+b*Q) (c*P+d*Q))∧Hid (Sb wx k a b c d true)∧Hid (Below B w wx))
  case first =>
   go_region_with (go_at_call 220;go_must (refine HBl.out.mono ?_;rintro e w2 ⟨u1,u2,rfl,o1,o2,ap,n1,n2,hk⟩;obtain⟨r1,r2,r3,r4⟩:=H4.out.blendFS HEb.out HS.out HZ.out o1 o2 ap n1 n2 (Kp.undrew hk);obtain⟨x1,y1,rfl⟩:=rd_form o1.rd;obtain⟨x2,y2,rfl⟩:=rd_form o2.rd;have R1:=hid r1;have R2:=hid r2;have R3:=hid r3;have R4:=hid r4;obtain⟨d0,d1,d2,d3,d4⟩:=r2.cells;have f0:=r2.free 0;have f1:=r2.free 1;clear o1 o2 ap n1 n2 hk r1 r2 r3 r4))
   all_goals
        have K:=(kp_set (w:=w2) g 0 (.slice x1 (digs f).length y1)).trans (kp_set g 1 (.slice x2 (digs s).length y2)) (fun _ _ h=>h)
        have E':=hid (R2.out.set01 (.slice x1 (digs f).length y1) (.slice x2 (digs s).length y2))
        have L':=hid (R1.out.stored R2.out K)
        have S':=hid (sb_kp R3.out K (fun e=>eb_not_sb R2.out R3.out e.symm))
        have W':=hid (HW.out.trans (R4.out.trans (K.below (Nat.le_trans HZ.out R4.out.size) (fun _ e=>e▸HBg.out))))
        clear d0 d1 d2 d3 d4 f0 f1 K
        go_wp2_with fail
        go_meet
        exact⟨_,_,E',L',S',W'⟩
  case rest =>
   clear HEb H4 HS HW HZ c0 c1 c2 c3 c4 HBl s0 s1 s2 s3 s4 v1 v2 v3 v4 v5 v6
   obtain⟨vf,vs,HEb,H4,HS,HW⟩:=hcut
   obtain⟨c0,c1,c2,c3,c4⟩:=HEb.out.cells
   obtain⟨s0,s1,s2,s3,s4⟩:=sb_cells HS.out
   have f4:=HEb.out.free 4
   go_wp2
   go_region
   all_goals
        clear c0 c1 c2 c3 c4 s0 s1 s2 s3 s4 f4
        go_wp2
        go_end0
        have K:Kp (fun k=>k=g) wc (wc.setCell ⟨g,4,none⟩ (.bool (!n))).drew:=(kp_set g 4 (.bool (!n))).drew
        refine⟨rfl,⟨vf,vs,vp,vq,?_,HBg.out,H4.out.stored HEb.out K⟩,HW.out.trans (K.below (Nat.le_trans HB.out HW.out.size) (fun _ e=>e▸HBg.out))⟩
        have E:=HEb.out.set4 (!n)
        have e:(n != true)=(!n):=by cases n<;>rfl
        rw[e]
        exact E
end Go.Proofs.YthjmjlfnpnbonaaGreatDoor
set_option maxRecDepth 100000
set_option maxHeartbeats 20000000
open Go.Lib (hid)
namespace Go.Proofs.YthjmjlfnpnbonaaGreatDoor
open Go.RowKit Go.Gb
theorem eApply (B g F S P Q a b c d f s:Nat)(n o:Bool)(hm:Made a b c d o F S f s)(hf:Fac a b c d)(hd9:d≤1000000000)(hlF:(digs F).length≤80000)(hlS:(digs S).length≤80000)(hlP:(digs P).length≤80000)(hlQ:(digs Q).length≤80000)(w:World)(h:EuSt B w g F S P Q n)(hB:B≤w.heap.size) :
 Calls Tryz.prog 195 #[.pointer (some ⟨g,0,none⟩),.agg #[.int .u64 (a:Int),.int .u64 (b:Int),.int .u64 (c:Int),.int .u64 (d:Int),.bool o]] w fun e w'=>e=.returned (.tuple #[])∧Hid (EuSt B w' g f s (a*P+b*Q) (c*P+d*Q) (n != o))∧Below B w w':=by
 cases o with
 | false=>exact eApplyEven B g F S P Q a b c d f s n hm hf hd9 hlF hlS hlP hlQ w h hB
 | true=>exact eApplyOdd B g F S P Q a b c d f s n hm hf hd9 hlF hlS hlP hlQ w h hB
theorem EuSt.kp {B g F S P Q:Nat}{n:Bool}{w w':World}(h:EuSt B w g F S P Q n){Z:Nat→Prop}(hk:Kp Z w w')(hg:¬ Z g)(hn:∀ {v:Value} {xs:List Nat},Own .u64 110 B w v xs→∀ k,At v k→¬ Z k):EuSt B w' g F S P Q n:=by
 obtain⟨vf,vs,vp,vq,hE,hBg,L⟩:=h
 exact⟨vf,vs,vp,vq,hE.kp hk hg,hBg,L.kp hk (fun k h=>h.elim (hn L.f k) (fun h=>h.elim (hn L.s k) (fun h=>h.elim (hn L.p k) (hn L.q k))))⟩
theorem EuSt.below {B g F S P Q:Nat}{n:Bool}{w w':World}(h:EuSt B w g F S P Q n)(hb:Below w.heap.size w w'):EuSt B w' g F S P Q n :=
 h.kp (Z:=fun _=>False) (Kp.of_below hb) (fun h=>h) (fun _ _ _ h=>h)
theorem kp_set5 {w:World}(g a b c d:Nat)(o:Bool):Kp (fun k=>k=g) w (set5 w g a b c d o) :=
 (((((Kp.refl (fun k=>k=g) w).set (p:=⟨g,0,none⟩) (fun _=>rfl) _).set (p:=⟨g,1,none⟩) (fun _=>rfl) _).set (p:=⟨g,2,none⟩) (fun _=>rfl) _).set (p:=⟨g,3,none⟩) (fun _=>rfl) _).set (p:=⟨g,4,none⟩) (fun _=>rfl) _
theorem EuSt.set5 {B g k F S P Q a b c d:Nat}{o n:Bool}{w:World}(h:EuSt B w g F S P Q n)(hs:Sb w k a b c d o)(a' b' c' d':Nat)(o':Bool):EuSt B (set5 w k a' b' c' d' o') g F S P Q n:=by
 obtain⟨vf,vs,vp,vq,hE,_,_⟩:=id h
 exact h.kp (kp_set5 k a' b' c' d' o') (eb_not_sb hE hs) (fun ho j hj e=>sb_apart hs ho (e▸hj))
theorem EuSt.alloc {B g F S P Q:Nat}{n:Bool}{w:World}(h:EuSt B w g F S P Q n)(x:Obj):EuSt B (w.alloc x) g F S P Q n:=h.below ((Below.refl _ w).alloc (Nat.le_refl _) x)
theorem EuSt.drew {B g F S P Q:Nat}{n:Bool}{w:World}(h:EuSt B w g F S P Q n):EuSt B w.drew g F S P Q n:=h.below ((Below.refl _ w).drew)
def EuN (k G F S:Nat):Prop:=k=F+S∧S≤F∧Nat.gcd F S=G
theorem fore_wayA {B g F S P Q a b c d:Nat}{n o:Bool}{w w1:World}(h:EuSt B w g F S P Q n)(hB:B≤w.heap.size)(hb:Below w.drew.heap.size w.drew w1) :
 Sb (w1.alloc (.cells #[.int .u64 (a:Int),.int .u64 (b:Int),.int .u64 (c:Int),.int .u64 (d:Int),.bool o] 192)) w1.heap.size a b c d o∧EuSt B (w1.alloc (.cells #[.int .u64 (a:Int),.int .u64 (b:Int),.int .u64 (c:Int),.int .u64 (d:Int),.bool o] 192)) g F S P Q n ∧
 Below B w (w1.alloc (.cells #[.int .u64 (a:Int),.int .u64 (b:Int),.int .u64 (c:Int),.int .u64 (d:Int),.bool o] 192)) :=
 ⟨sb_new w1 a b c d o,(h.drew.below hb).alloc _,((Below.refl B w).drew.trans (hb.mono hB)).alloc (Nat.le_trans hB hb.size) _⟩
theorem fore_wayB {B g F S P Q a b c d:Nat}{n o:Bool}{w w1:World}(h:EuSt B w g F S P Q n)(hB:B≤w.heap.size)(hb:Below (w.alloc (.cells #[.int .u64 0,.int .u64 0,.int .u64 0,.int .u64 0,.bool false] 192)).drew.heap.size (w.alloc (.cells #[.int .u64 0,.int .u64 0,.int .u64 0,.int .u64 0,.bool false] 192)).drew w1) :
 Sb (set5 w1 w.heap.size a b c d o) w.heap.size a b c d o∧EuSt B (set5 w1 w.heap.size a b c d o) g F S P Q n∧Below B w (set5 w1 w.heap.size a b c d o):=by
 have hs:Sb w1 w.heap.size 0 0 0 0 false:=sb_below (sb_drew (sb_new w 0 0 0 0 false)) hb
 have he:EuSt B w1 g F S P Q n:=((h.alloc _).drew).below hb
 refine⟨sb_set5 hs a b c d o,he.set5 hs a b c d o,below_set5 ?_ hB a b c d o⟩
 exact(((Below.refl B w).alloc hB _).drew).trans (hb.mono (Nat.le_trans hB (by show _≤(World.alloc _ _).heap.size;rw[World.size_alloc];omega)))
theorem eRun (I:Nat→Nat→Nat→Nat→Bool→Prop)(hI:Keeps I)(B g F S P Q:Nat)(n:Bool)(h0:I F S P Q n)(w:World)(h:EuSt B w g F S P Q n)(hB:B≤w.heap.size) :
 Calls Tryz.prog 164 #[.pointer (some ⟨g,0,none⟩)] w fun e w'=>∃ (P' Q':Nat) (n':Bool),e=.returned (.tuple #[])∧Hid (EuSt B w' g (Nat.gcd F S) 0 P' Q' n')∧Hid (I (Nat.gcd F S) 0 P' Q' n')∧Below B w w':=by
 have HI:=hid hI
 have H0:=hid h0
 have HE:=hid h
 have HB:=hid hB
 obtain⟨l1,l2,l3,l4⟩:=hI.len F S P Q n h0
 obtain⟨vf,vs,vp,vq,hE,hBg,L⟩:=h
 have HLs:=hid (Less_any vf vs F S (by omega) w.drew L.f.rd L.s.rd)
 obtain⟨c0,c1,c2,c3,c4⟩:=hE.cells
 clear hI h0 hB hE L hBg l1 l2 l3 l4
 go_enter Tryz.func164,Tryz.ntmps164
 go_upto_region 0 with fail
 go_cut [11] (fun v wx=>v=.bool (decide (F<S))∧Hid (EuSt B wx g F S P Q n)∧Hid (Below B w wx))
 case first =>
  go_region_with (go_at_call 192;go_must (refine HLs.out.mono ?_;rintro e w1 ⟨rfl,hb1⟩))
  all_goals
   have E':=hid (HE.out.drew.below hb1)
   have B':=hid (show Below B w w1 from(Below.refl B w).drew.trans (hb1.mono HB.out))
   clear hb1
   go_wp2_with fail
   go_meet
   exact⟨rfl,E',B'⟩
 case rest =>
  clear c0 c1 c2 c3 c4 HLs HE
  obtain⟨rfl,HE,HW⟩:=hcut
  go_upto_if 11 with fail
  go_cut [12] (fun _ wx=>∃ (F' S' P' Q':Nat) (n':Bool),Hid (EuN (F+S) (Nat.gcd F S) F' S')∧Hid (EuSt B wx g F' S' P' Q' n')∧Hid (I F' S' P' Q' n')∧Hid (Below B w wx))
  case first =>
   by_cases hFS:F<S
   · rw[decide_eq_true hFS]
     obtain⟨l1,l2,l3,l4⟩:=HI.out.len F S P Q n H0.out
     have hn:=HI.out.div F S P Q n (by omega) H0.out
     have ln:=HI.out.len _ _ _ _ _ hn
     have HDv:=hid (eDivide B g F S P Q n (by omega) l1 l3 l4 ln.2.2.2 wc HE.out (Nat.le_trans HB.out HW.out.size))
     rw[Nat.mod_eq_of_lt hFS]at hn HDv
     have HN:=hid hn
     have HA:=hid (show EuN (F+S) (Nat.gcd F S) S F from⟨Nat.add_comm _ _,Nat.le_of_lt hFS,Nat.gcd_comm _ _⟩)
     clear hn ln l1 l2 l3 l4 hFS
     go_wp2_with fail
     refine HDv.out.mono ?_
     rintro e w2 ⟨rfl,hE2,hb2⟩
     have HW2:=hid (HW.out.trans hb2)
     clear hb2
     go_wp2_with fail
     go_meet
     exact⟨S,F,Q,_,_,HA,hE2,HN,HW2⟩
   · rw[decide_eq_false hFS]
     have HA:=hid (show EuN (F+S) (Nat.gcd F S) F S from⟨rfl,by omega,rfl⟩)
     clear hFS
     go_wp2_with fail
     go_meet
     exact⟨F,S,P,Q,n,HA,HE,H0,HW⟩
  case rest =>
   clear HE HW H0
   obtain⟨F0,S0,P0,Q0,n0,hA0,hE0,hI0,hW0⟩:=hcut
   go_wp2
   go_loopg [2] (F+S) (fun k _ wr=>∃ (F' S' P' Q':Nat) (n':Bool),Hid (EuN k (Nat.gcd F S) F' S')∧Hid (EuSt B wr g F' S' P' Q' n')∧Hid (I F' S' P' Q' n')∧Hid (Below B w wr))
   case atStart=>exact⟨F0,S0,P0,Q0,n0,hA0,hE0,hI0,hW0⟩
   case round =>
        obtain⟨F1,S1,P1,Q1,n1,hA,hE,hJ,hW⟩:=hrel
        clear hA0 hE0 hI0 hW0
        obtain⟨vf,vs,vp,vq,hEb,hBg,L⟩:=hE.out
        obtain⟨af,cf,rfl⟩:=rd_form L.f.rd
        obtain⟨as_,cs_,rfl⟩:=rd_form L.s.rd
        obtain⟨c0,c1,c2,c3,c4⟩:=hEb.cells
        obtain⟨l1,l2,l3,l4⟩:=HI.out.len _ _ _ _ _ hJ.out
        by_cases hS1:S1=0
        · subst hS1
          rw[digs_zero,show([]:List Nat).length=0 from rfl]at c1
          clear hEb L hBg c0 c2 c3 c4 l1 l2 l3 l4
          have hg:=hA.out.2.2
          rw[Nat.gcd_zero_right]at hg
          have HG:=hid hg
          clear hg
          go_wp2
          go_end0
          exact⟨P1,Q1,n1,rfl,by rw[← HG.out];exact hE,by rw[← HG.out];exact hJ,hW.out⟩
        · have hm:0<(digs S1).length:=by rw[digs_pos hS1];simp
          have HFo:=hid (foresee_any _ _ F1 S1 hS1 hA.out.2.1 l1 wr.drew L.f.rd L.s.rd)
          have HFo2:=hid (foresee_any _ _ F1 S1 hS1 hA.out.2.1 l1 (wr.alloc (.cells #[.int .u64 0,.int .u64 0,.int .u64 0,.int .u64 0,.bool false] 192)).drew (L.f.rd.below ((Below.refl _ wr).alloc (Nat.le_refl _) _).drew) (L.s.rd.below ((Below.refl _ wr).alloc (Nat.le_refl _) _).drew))
          unfold Stp at HFo HFo2
          have hZ:=hid (Nat.le_trans HB.out hW.out.size)
          have HS1:=hid hS1
          generalize (digs S1).length=m at *
          generalize (digs F1).length=mf at *
          have hgw:=hEb.lt
          have GA:=hid (show g<wr.drew.heap.size from hgw)
          have GB:=hid (show g<(wr.alloc (.cells #[.int .u64 0,.int .u64 0,.int .u64 0,.int .u64 0,.bool false] 192)).drew.heap.size by show _<(World.alloc _ _).heap.size;rw[World.size_alloc];omega)
          have DA0:=hid (show wr.drew.cell? ⟨g,0,none⟩=some (.slice af mf cf) from c0)
          have DA1:=hid (show wr.drew.cell? ⟨g,1,none⟩=some (.slice as_ m cs_) from c1)
          have DB0:=hid (show(wr.alloc (.cells #[.int .u64 0,.int .u64 0,.int .u64 0,.int .u64 0,.bool false] 192)).drew.cell? ⟨g,0,none⟩=some (.slice af mf cf) by rw[wc_drew,wc_alloc hgw];exact c0)
          have DB1:=hid (show(wr.alloc (.cells #[.int .u64 0,.int .u64 0,.int .u64 0,.int .u64 0,.bool false] 192)).drew.cell? ⟨g,1,none⟩=some (.slice as_ m cs_) by rw[wc_drew,wc_alloc hgw];exact c1)
          clear hEb L hBg l1 l2 l3 l4 hS1
          go_upto_region 3 with fail
          go_cut [2]from 14 to 36 (fun v2 wx=>∃ (k a b c d:Nat) (o:Bool),v2=.pointer (some ⟨k,0,none⟩)∧Hid (Sb wx k a b c d o)∧Hid (EuSt B wx g F1 S1 P1 Q1 n1)∧Hid (Seen F1 S1 a b c d o)∧Hid (Below B w wx))
          case first =>
           go_region_held3 (fun w'=>w'.cell? ⟨g,0,none⟩=some (.slice af mf cf)∧w'.cell? ⟨g,1,none⟩=some (.slice as_ m cs_)) (first|((try go_split_ands);refine⟨?_,?_⟩<;>(first|(with_reducible assumption)|((repeat (first|rw[wc_drew]|rw[wc_alloc (by first|assumption|omega|(simp;done)|(simp;omega))]|rw[wc_ne (by omega)]));first|(with_reducible assumption)|(simp;done))))|(go_keep;done))
            (first
               | (go_at_call 194;(refine(HFo.out).mono ?_);rintro e w1 ⟨a,b,c,d,o,rfl,hSeen,hb1⟩;have HB1:=hid hb1;obtain⟨hc1,hf1⟩:=wbc hb1;have hz1:=hb1.size;(try simp at hz1);have d0:w1.cell? ⟨g,0,none⟩=some (.slice af mf cf):=(hc1 _ _ GA.out).trans DA0.out;have d1:w1.cell? ⟨g,1,none⟩=some (.slice as_ m cs_):=(hc1 _ _ GA.out).trans DA1.out)
               | (go_at_call 194;(refine(HFo2.out).mono ?_);rintro e w1 ⟨a,b,c,d,o,rfl,hSeen,hb1⟩;have HB1:=hid hb1;obtain⟨hc1,hf1⟩:=wbc hb1;have hz1:=hb1.size;(try simp at hz1);have d0:w1.cell? ⟨g,0,none⟩=some (.slice af mf cf):=(hc1 _ _ GB.out).trans DB0.out;have d1:w1.cell? ⟨g,1,none⟩=some (.slice as_ m cs_):=(hc1 _ _ GB.out).trans DB1.out))
           · obtain⟨q1,q2,q3⟩:=fore_wayA (a:=a) (b:=b) (c:=c) (d:=d) (o:=o) hE.out hZ.out HB1.out
             have Q1:=hid q1
             have Q2:=hid q2
             have Q3:=hid (hW.out.trans q3)
             clear q1 q2 q3
             go_wp2_with fail
             go_meet
             exact⟨_,a,b,c,d,o,rfl,Q1,Q2,hSeen,Q3⟩
           · obtain⟨q1,q2,q3⟩:=fore_wayB (a:=a) (b:=b) (c:=c) (d:=d) (o:=o) hE.out hZ.out HB1.out
             have Q1:=hid q1
             have Q2:=hid q2
             have Q3:=hid (hW.out.trans q3)
             clear q1 q2 q3
             go_wp2_with fail
             go_meet
             exact⟨_,a,b,c,d,o,rfl,Q1,Q2,hSeen,Q3⟩
          case rest =>
           clear hE hW hZ c0 c1 c2 c3 c4 HFo HFo2 hgw
           obtain⟨k,a,b,c,d,o,rfl,hS,hE,hSeen,hW⟩:=hcut
           have hZ:=Nat.le_trans HB.out hW.out.size
           obtain⟨s0,s1,s2,s3,s4⟩:=sb_cells hS.out
           obtain⟨l1,l2,l3,l4⟩:=HI.out.len _ _ _ _ _ hJ.out
           obtain⟨hk,hle,hg⟩:=hA.out
           by_cases hb:b=0
           · have hbz:((b:Int)==0)=true:=beq_iff_eq.2 (by omega)
             have hn:=HI.out.div F1 S1 P1 Q1 n1 HS1.out hJ.out
             have ln:=HI.out.len _ _ _ _ _ hn
             have HDv:=hid (eDivide B g F1 S1 P1 Q1 n1 HS1.out l1 l3 l4 ln.2.2.2 wc hE.out hZ)
             have hlt:=Nat.mod_lt F1 (Nat.pos_of_ne_zero HS1.out)
             have HA:=hid (show EuN (S1+F1%S1) (Nat.gcd F S) S1 (F1%S1) from⟨rfl,Nat.le_of_lt hlt,by rw[← hg,Nat.gcd_comm S1,← Nat.gcd_rec,Nat.gcd_comm]⟩)
             have HLt:=hid (show S1+F1%S1<gk by omega)
             have HN:=hid hn
             clear hn ln hlt hk hle hg l1 l2 l3 l4 hb hZ
             go_wp2_with fail
             refine HDv.out.mono ?_
             rintro e w2 ⟨rfl,hE2,hb2⟩
             have HW2:=hid (hW.out.trans hb2)
             clear hb2
             go_wp2
             go_roundg (S1+F1%S1)
             case measure=>exact HLt.out
             case rel=>exact⟨S1,F1%S1,Q1,_,_,HA,hE2,HN,HW2⟩
           · have hbz:((b:Int)==0)=false:=beq_eq_false_iff_ne.2 (by omega)
             have hF1:F1≠0:=by have:=HS1.out;omega
             obtain⟨f,s,hm,hsf,hFac,hD,hd9⟩:=hSeen.out.resolve_left hb
             have hn:=HI.out.app F1 S1 P1 Q1 n1 a b c d o f s hF1 hb hm hD hFac hsf hJ.out
             have HAp:=hid (eApply B g F1 S1 P1 Q1 a b c d f s n1 o hm hFac hd9 l1 l2 l3 l4 wc hE.out hZ)
             have HA:=hid (show EuN (f+s) (Nat.gcd F S) f s from⟨rfl,hsf,by rw[hm.gcd hD,hg]⟩)
             have HLt:=hid (show f+s<gk by have:=hm.less hD hFac hb hF1 hsf;omega)
             have HN:=hid hn
             clear hn hk hle hg l1 l2 l3 l4 hb hZ hF1 hm hsf hFac hD hd9
             go_wp2_with fail
             refine HAp.out.mono ?_
             rintro e w2 ⟨rfl,hE2,hb2⟩
             have HW2:=hid (hW.out.trans hb2)
             clear hb2
             go_wp2
             go_roundg (f+s)
             case measure=>exact HLt.out
             case rel=>exact⟨f,s,_,_,_,HA,hE2,HN,HW2⟩
end Go.Proofs.YthjmjlfnpnbonaaGreatDoor
