/- Texts of this proof, one behind the other. -/
import Derived.Test.YtcihodmmaclihaaGreatDoorMz28q
set_option maxRecDepth 100000
set_option maxHeartbeats 20000000
open Go.Lib (hid)
namespace Go.Proofs.YtcihodmmaclihaaGreatDoor
open Go.RowKit Go.Gb
theorem Kp.undrew {S:Nat→Prop}{a b:World}(h:Kp S a.drew b):Kp S a b:=⟨h.os,h.tape,h.output,h.size,h.block⟩
theorem eb_not_sb {w:World}{g k a b c d:Nat}{o n:Bool}{vf vs vp vq:Value}(h:Eb w g vf vs vp vq n)(hs:Sb w k a b c d o):g≠k:=by
 intro e
 subst e
 unfold Eb at h
 unfold Sb at hs
 rw[h]at hs
 injection hs with hs
 injection hs with e1 e2 e3
 exact absurd e2 (by decide)
theorem sb_kp {w w':World}{k a b c d:Nat}{o:Bool}(hs:Sb w k a b c d o){Z:Nat→Prop}(hk:Kp Z w w')(hn:¬ Z k):Sb w' k a b c d o:=by
 unfold Sb at *
 rw[hk.block k (Array.getElem?_eq_some_iff.1 hs).1 hn]
 exact hs
theorem sb_apart {w:World}{k a b c d B:Nat}{o:Bool}{v:Value}{xs:List Nat}(h:Sb w k a b c d o)(ho:Own .u64 143 B w v xs):¬ At v k:=by
 intro hg
 obtain⟨_,h2⟩:=ho
 rcases h2 with⟨rfl,_⟩|⟨j,cap,cur,rfl,_,hh,_⟩
 · exact at_nil _ _ _ hg
 · rw[at_some]at hg
   subst hg
   unfold Sb at h
   rw[h]at hh
   injection hh with hh
   injection hh with e1 e2 e3
   exact absurd e2 (by decide)
theorem St4.blendPQ {B g k:Nat}{w w':World}{vf vs vp vq u1 u2:Value}{F S P Q P' Q' a b c d:Nat}{n o:Bool}(L:St4 B w vf vs vp vq F S P Q)(E:Eb w g vf vs vp vq n)(K:Sb w k a b c d o)(hB:B≤w.heap.size)
 (o1:Own .u64 143 B w' u1 (digs P')) (o2:Own .u64 143 B w' u2 (digs Q')) (ap:Apt u1 u2) (n1:NewOr w vp u1) (n2:NewOr w vq u2) (hk:Kp (fun g=>At vp g∨At vq g) w w') :
 St4 B w' vf vs u1 u2 F S P' Q'∧Eb w' g vf vs vp vq n∧Sb w' k a b c d o∧Below B w w' :=
 ⟨⟨L.f.kp hk (fun _ h1 h2=>h2.elim (L.fp _ h1) (L.fq _ h1)),L.s.kp hk (fun _ h1 h2=>h2.elim (L.sp _ h1) (L.sq _ h1)),o1,o2,L.fs,(L.fp.symm.newOr n1 (fun _ h=>(L.f.at h).2)).symm,(L.fq.symm.newOr n2 (fun _ h=>(L.f.at h).2)).symm,
   (L.sp.symm.newOr n1 (fun _ h=>(L.s.at h).2)).symm,(L.sq.symm.newOr n2 (fun _ h=>(L.s.at h).2)).symm,ap⟩,
  E.kp hk (fun h=>h.elim (E.apart L.p) (E.apart L.q)),sb_kp K hk (fun h=>h.elim (sb_apart K L.p) (sb_apart K L.q)),hk.below hB (fun _ h=>h.elim (fun h=>(L.p.at h).1) (fun h=>(L.q.at h).1))⟩
theorem St4.blendFS {B g k:Nat}{w w':World}{vf vs vp vq u1 u2:Value}{F S P Q F' S' a b c d:Nat}{n o:Bool}(L:St4 B w vf vs vp vq F S P Q)(E:Eb w g vf vs vp vq n)(K:Sb w k a b c d o)(hB:B≤w.heap.size)
 (o1:Own .u64 143 B w' u1 (digs F')) (o2:Own .u64 143 B w' u2 (digs S')) (ap:Apt u1 u2) (n1:NewOr w vf u1) (n2:NewOr w vs u2) (hk:Kp (fun g=>At vf g∨At vs g) w w') :
 St4 B w' u1 u2 vp vq F' S' P Q∧Eb w' g vf vs vp vq n∧Sb w' k a b c d o∧Below B w w' :=
 ⟨⟨o1,o2,L.p.kp hk (fun _ h1 h2=>h2.elim (fun h=>L.fp _ h h1) (fun h=>L.sp _ h h1)),L.q.kp hk (fun _ h1 h2=>h2.elim (fun h=>L.fq _ h h1) (fun h=>L.sq _ h h1)),ap,L.fp.newOr n1 (fun _ h=>(L.p.at h).2),L.fq.newOr n1 (fun _ h=>(L.q.at h).2),
   L.sp.newOr n2 (fun _ h=>(L.p.at h).2),L.sq.newOr n2 (fun _ h=>(L.q.at h).2),L.pq⟩,
  E.kp hk (fun h=>h.elim (E.apart L.f) (E.apart L.s)),sb_kp K hk (fun h=>h.elim (sb_apart K L.f) (sb_apart K L.s)),hk.below hB (fun _ h=>h.elim (fun h=>(L.f.at h).1) (fun h=>(L.s.at h).1))⟩
theorem St4.stored {B g:Nat}{w w':World}{vf vs vp vq wf ws wp wq:Value}{F S P Q:Nat}{n:Bool}(L:St4 B w vf vs vp vq F S P Q)(E:Eb w g wf ws wp wq n)(hk:Kp (fun k=>k=g) w w'):St4 B w' vf vs vp vq F S P Q :=
 L.kp hk (fun _ h e=>by subst e;exact h.elim (E.apart L.f) (fun h=>h.elim (E.apart L.s) (fun h=>h.elim (E.apart L.p) (E.apart L.q))))
theorem eApplyEven (B g F S P Q a b c d f s:Nat)(n:Bool)(hm:Made a b c d false F S f s)(hf:Fac a b c d)(hd9:d≤1000000000)(hlF:(digs F).length≤80000)(hlS:(digs S).length≤80000)(hlP:(digs P).length≤80000)(hlQ:(digs Q).length≤80000)(w:World)(h:EuSt B w g F S P Q n)(hB:B≤w.heap.size) :
 Calls Tryz.prog 159 #[.pointer (some ⟨g,0,none⟩),.agg #[.int .u64 (a:Int),.int .u64 (b:Int),.int .u64 (c:Int),.int .u64 (d:Int),.bool false]] w fun e w'=>e=.returned (.tuple #[])∧Hid (EuSt B w' g f s (a*P+b*Q) (c*P+d*Q) (n != false))∧Below B w w':=by
 obtain⟨ha9,hb9,hc9⟩:=hf.le hd9 (by omega)
 obtain⟨vf,vs,vp,vq,hE,hBg,h4⟩:=h
 obtain⟨e1,e2⟩:=hm.even
 have HE1:=hid e1
 have HE2:=hid e2
 have HBg:=hid hBg
 have HB:=hid hB
 have hw0:=(Below.refl w.heap.size w).alloc (Nat.le_refl _) (.cells #[.int .u64 (a:Int),.int .u64 (b:Int),.int .u64 (c:Int),.int .u64 (d:Int),.bool false] 147)
 have HEb:=hid (hE.below hw0)
 have H4:=hid (h4.below hw0)
 have HS:=hid (sb_new w a b c d false)
 have HW:=hid (hw0.mono hB)
 have HZ:=hid (show B≤(w.alloc (.cells #[.int .u64 (a:Int),.int .u64 (b:Int),.int .u64 (c:Int),.int .u64 (d:Int),.bool false] 147)).heap.size by rw[World.size_alloc];omega)
 clear hm hf e1 e2 hBg hB hw0 hE h4
 obtain⟨s0,s1,s2,s3,s4⟩:=sb_cells HS.out
 obtain⟨k,hk⟩:∃ k,k=w.heap.size:=⟨_,rfl⟩
 rw[← hk]at HS s0 s1 s2 s3 s4
 have HK:=hid hk
 go_enter Tryz.func159,Tryz.ntmps159
 go_upto_region 1 with fail
 rw[← hk]
 clear hk
 generalize w.alloc (.cells #[.int .u64 (a:Int),.int .u64 (b:Int),.int .u64 (c:Int),.int .u64 (d:Int),.bool false] 147)=w0 at *
 go_wp2
 go_quiet (fail)
 have HEb:=hid (show Eb (w0.drewN nq) g vf vs vp vq n from HEb.out)
 have H4:=hid (show St4 B (w0.drewN nq) vf vs vp vq F S P Q from H4.out.kp ((Kp.refl (fun _=>False) w0).drewN nq) (fun _ _ h=>h))
 have HS:=hid (show Sb (w0.drewN nq) k a b c d false from HS.out)
 have HW:=hid (show Below B w (w0.drewN nq) from below_drewN' HW.out nq)
 have HZ:=hid (show B≤(w0.drewN nq).heap.size from HZ.out)
 clear s0 s1 s2 s3 s4
 generalize w0.drewN nq=w1 at *
 have HBl:=hid (blend_any B vp vq (digs P) (digs Q) a b c d (a*P+b*Q) (c*P+d*Q) w1.drew (by omega) (by omega) (by omega) (by omega) (by omega) (by omega) (by omega) (by omega)
  (digs_lt _) (digs_lt _) (by omega) (by omega) (by rw[wval_digs,wval_digs,Int.natCast_add,Int.natCast_mul,Int.natCast_mul]) (by rw[wval_digs,wval_digs,Int.natCast_add,Int.natCast_mul,Int.natCast_mul]) H4.out.p H4.out.q H4.out.pq HZ.out)
 obtain⟨c0,c1,c2,c3,c4⟩:=HEb.out.cells
 go_upto_region 2 with fail
 go_cut [20] (fun _ wx=>∃ vp vq:Value,Hid (Eb wx g vf vs vp vq n)∧Hid (St4 B wx vf vs vp vq F S (a*P+b*Q) (c*P+d*Q))∧Hid (Sb wx k a b c d false)∧Hid (Below B w wx))
 case first =>
  go_region_with (go_at_call 183;go_must (refine HBl.out.mono ?_;rintro e w2 ⟨u1,u2,rfl,o1,o2,ap,n1,n2,hk⟩;obtain⟨r1,r2,r3,r4⟩:=H4.out.blendPQ HEb.out HS.out HZ.out o1 o2 ap n1 n2 (Kp.undrew hk);obtain⟨x1,y1,rfl⟩:=rd_form o1.rd;obtain⟨x2,y2,rfl⟩:=rd_form o2.rd;have R1:=hid r1;have R2:=hid r2;have R3:=hid r3;have R4:=hid r4;obtain⟨d0,d1,d2,d3,d4⟩:=r2.cells;have f2:=r2.free 2;have f3:=r2.free 3;clear o1 o2 ap n1 n2 hk r1 r2 r3 r4))
  all_goals
   have K:=(kp_set (w:=w2) g 2 (.slice x1 (digs (a*P+b*Q)).length y1)).trans (kp_set g 3 (.slice x2 (digs (c*P+d*Q)).length y2)) (fun _ _ h=>h)
   have E':=hid (R2.out.set23 (.slice x1 (digs (a*P+b*Q)).length y1) (.slice x2 (digs (c*P+d*Q)).length y2))
   have L':=hid (R1.out.stored R2.out K)
   have S':=hid (sb_kp R3.out K (fun e=>eb_not_sb R2.out R3.out e.symm))
   have W':=hid (HW.out.trans (R4.out.trans (K.below (Nat.le_trans HZ.out R4.out.size) (fun _ e=>e▸HBg.out))))
   clear d0 d1 d2 d3 d4 f2 f3 K
   go_wp2_with fail
   go_meet
   exact⟨_,_,E',L',S',W'⟩
 case rest =>
  clear HEb H4 HS HW HZ c0 c1 c2 c3 c4 HBl
  obtain⟨vp,vq,HEb,H4,HS,HW⟩:=hcut
  have HZ:=hid (Nat.le_trans HB.out HW.out.size)
  have HBl:=hid (blend_any B vf vs (digs F) (digs S) ((a:Int)) (-(b:Int)) (-(c:Int)) ((d:Int)) f s wc.drew (by omega) (by omega) (by omega) (by omega) (by omega) (by omega) (by omega) (by omega)
   (digs_lt _) (digs_lt _) (by omega) (by omega) (by rw[wval_digs,wval_digs];exact HE1.out) (by rw[wval_digs,wval_digs];exact HE2.out) H4.out.f H4.out.s H4.out.fs HZ.out)
  obtain⟨c0,c1,c2,c3,c4⟩:=HEb.out.cells
  obtain⟨s0,s1,s2,s3,s4⟩:=sb_cells HS.out
  have v1:IntKind.i64.wrap (-(a:Int)) = -(a:Int):=IntWalk.i64_in _ (by omega)
  have v2:IntKind.i64.wrap (-(b:Int)) = -(b:Int):=IntWalk.i64_in _ (by omega)
  have v3:IntKind.i64.wrap (-(c:Int)) = -(c:Int):=IntWalk.i64_in _ (by omega)
  have v4:IntKind.i64.wrap (-(d:Int)) = -(d:Int):=IntWalk.i64_in _ (by omega)
  have v5:IntKind.i64.wrap (b:Int)=(b:Int):=IntWalk.i64_in _ (by omega)
  have v6:IntKind.i64.wrap (c:Int)=(c:Int):=IntWalk.i64_in _ (by omega)
  go_upto_region 5 with fail
  go_cut [52] (fun _ wx=>∃ vf vs:Value,Hid (Eb wx g vf vs vp vq n)∧Hid (St4 B wx vf vs vp vq f s (a*P+b*Q) (c*P+d*Q))∧Hid (Sb wx k a b c d false)∧Hid (Below B w wx))
  case first =>
   go_region_with (go_at_call 183;go_must (refine HBl.out.mono ?_;rintro e w2 ⟨u1,u2,rfl,o1,o2,ap,n1,n2,hk⟩;obtain⟨r1,r2,r3,r4⟩:=H4.out.blendFS HEb.out HS.out HZ.out o1 o2 ap n1 n2 (Kp.undrew hk);obtain⟨x1,y1,rfl⟩:=rd_form o1.rd;obtain⟨x2,y2,rfl⟩:=rd_form o2.rd;have R1:=hid r1;have R2:=hid r2;have R3:=hid r3;have R4:=hid r4;obtain⟨d0,d1,d2,d3,d4⟩:=r2.cells;have f0:=r2.free 0;have f1:=r2.free 1;clear o1 o2 ap n1 n2 hk r1 r2 r3 r4))
   all_goals
        have K:=(kp_set (w:=w2) g 0 (.slice x1 (digs f).length y1)).trans (kp_set g 1 (.slice x2 (digs s).length y2)) (fun _ _ h=>h)
        have E':=hid (R2.out.set01 (.slice x1 (digs f).length y1) (.slice x2 (digs s).length y2))
        have L':=hid (R1.out.stored R2.out K)
        have S':=hid (sb_kp R3.out K (fun e=>eb_not_sb R2.out R3.out e.symm))
        have W':=hid (HW.out.trans (R4.out.trans (K.below (Nat.le_trans HZ.out R4.out.size) (fun _ e=>e▸HBg.out))))
        clear d0 d1 d2 d3 d4 f0 f1 K
        go_wp2_with fail
        go_meet
        exact⟨_,_,E',L',S',W'⟩
  case rest =>
   clear HEb H4 HS HW HZ c0 c1 c2 c3 c4 HBl s0 s1 s2 s3 s4 v1 v2 v3 v4 v5 v6
   obtain⟨vf,vs,HEb,H4,HS,HW⟩:=hcut
   obtain⟨c0,c1,c2,c3,c4⟩:=HEb.out.cells
   obtain⟨s0,s1,s2,s3,s4⟩:=sb_cells HS.out
   have f4:=HEb.out.free 4
   go_wp2
   go_region
   all_goals
        clear c0 c1 c2 c3 c4 s0 s1 s2 s3 s4 f4
        go_wp2
        go_end0
        have K:Kp (fun k=>k=g) wc (wc.setCell ⟨g,4,none⟩ (.bool n)).drew:=(kp_set g 4 (.bool n)).drew
        refine⟨rfl,⟨vf,vs,vp,vq,?_,HBg.out,H4.out.stored HEb.out K⟩,HW.out.trans (K.below (Nat.le_trans HB.out HW.out.size) (fun _ e=>e▸HBg.out))⟩
        have E:=HEb.out.set4 n
        have e:(n != false)=n:=by cases n<;>rfl
        rw[e]
        exact E
end Go.Proofs.YtcihodmmaclihaaGreatDoor
set_option maxRecDepth 100000
set_option maxHeartbeats 20000000
open Go.Lib (hid)
namespace Go.Proofs.YtcihodmmaclihaaGreatDoor
open Go.RowKit Go.Gb
theorem eApplyOdd (B g F S P Q a b c d f s:Nat)(n:Bool)(hm:Made a b c d true F S f s)(hf:Fac a b c d)(hd9:d≤1000000000)(hlF:(digs F).length≤80000)(hlS:(digs S).length≤80000)(hlP:(digs P).length≤80000)(hlQ:(digs Q).length≤80000)(w:World)(h:EuSt B w g F S P Q n)(hB:B≤w.heap.size) :
 Calls Tryz.prog 159 #[.pointer (some ⟨g,0,none⟩),.agg #[.int .u64 (a:Int),.int .u64 (b:Int),.int .u64 (c:Int),.int .u64 (d:Int),.bool true]] w fun e w'=>e=.returned (.tuple #[])∧Hid (EuSt B w' g f s (a*P+b*Q) (c*P+d*Q) (n != true))∧Below B w w':=by
 obtain⟨ha9,hb9,hc9⟩:=hf.le hd9 (by omega)
 obtain⟨vf,vs,vp,vq,hE,hBg,h4⟩:=h
 obtain⟨e1,e2⟩:=hm.odd
 have HE1:=hid e1
 have HE2:=hid e2
 have HBg:=hid hBg
 have HB:=hid hB
 have hw0:=(Below.refl w.heap.size w).alloc (Nat.le_refl _) (.cells #[.int .u64 (a:Int),.int .u64 (b:Int),.int .u64 (c:Int),.int .u64 (d:Int),.bool true] 147)
 have HEb:=hid (hE.below hw0)
 have H4:=hid (h4.below hw0)
 have HS:=hid (sb_new w a b c d true)
 have HW:=hid (hw0.mono hB)
 have HZ:=hid (show B≤(w.alloc (.cells #[.int .u64 (a:Int),.int .u64 (b:Int),.int .u64 (c:Int),.int .u64 (d:Int),.bool true] 147)).heap.size by rw[World.size_alloc];omega)
 clear hm hf e1 e2 hBg hB hw0 hE h4
 obtain⟨s0,s1,s2,s3,s4⟩:=sb_cells HS.out
 obtain⟨k,hk⟩:∃ k,k=w.heap.size:=⟨_,rfl⟩
 rw[← hk]at HS s0 s1 s2 s3 s4
 have HK:=hid hk
 go_enter Tryz.func159,Tryz.ntmps159
 go_upto_region 1 with fail
 rw[← hk]
 clear hk
 generalize w.alloc (.cells #[.int .u64 (a:Int),.int .u64 (b:Int),.int .u64 (c:Int),.int .u64 (d:Int),.bool true] 147)=w0 at *
 go_wp2
 go_quiet (fail)
 have HEb:=hid (show Eb (w0.drewN nq) g vf vs vp vq n from HEb.out)
 have H4:=hid (show St4 B (w0.drewN nq) vf vs vp vq F S P Q from H4.out.kp ((Kp.refl (fun _=>False) w0).drewN nq) (fun _ _ h=>h))
 have HS:=hid (show Sb (w0.drewN nq) k a b c d true from HS.out)
 have HW:=hid (show Below B w (w0.drewN nq) from below_drewN' HW.out nq)
 have HZ:=hid (show B≤(w0.drewN nq).heap.size from HZ.out)
 clear s0 s1 s2 s3 s4
 generalize w0.drewN nq=w1 at *
 have HBl:=hid (blend_any B vp vq (digs P) (digs Q) a b c d (a*P+b*Q) (c*P+d*Q) w1.drew (by omega) (by omega) (by omega) (by omega) (by omega) (by omega) (by omega) (by omega)
  (digs_lt _) (digs_lt _) (by omega) (by omega) (by rw[wval_digs,wval_digs,Int.natCast_add,Int.natCast_mul,Int.natCast_mul]) (by rw[wval_digs,wval_digs,Int.natCast_add,Int.natCast_mul,Int.natCast_mul]) H4.out.p H4.out.q H4.out.pq HZ.out)
 obtain⟨c0,c1,c2,c3,c4⟩:=HEb.out.cells
 go_upto_region 2 with fail
 go_cut [20] (fun _ wx=>∃ vp vq:Value,Hid (Eb wx g vf vs vp vq n)∧Hid (St4 B wx vf vs vp vq F S (a*P+b*Q) (c*P+d*Q))∧Hid (Sb wx k a b c d true)∧Hid (Below B w wx))
 case first =>
  go_region_with (go_at_call 183;go_must (refine HBl.out.mono ?_;rintro e w2 ⟨u1,u2,rfl,o1,o2,ap,n1,n2,hk⟩;obtain⟨r1,r2,r3,r4⟩:=H4.out.blendPQ HEb.out HS.out HZ.out o1 o2 ap n1 n2 (Kp.undrew hk);obtain⟨x1,y1,rfl⟩:=rd_form o1.rd;obtain⟨x2,y2,rfl⟩:=rd_form o2.rd;have R1:=hid r1;have R2:=hid r2;have R3:=hid r3;have R4:=hid r4;obtain⟨d0,d1,d2,d3,d4⟩:=r2.cells;have f2:=r2.free 2;have f3:=r2.free 3;clear o1 o2 ap n1 n2 hk r1 r2 r3 r4))
  all_goals
   have K:=(kp_set (w:=w2) g 2 (.slice x1 (digs (a*P+b*Q)).length y1)).trans (kp_set g 3 (.slice x2 (digs (c*P+d*Q)).length y2)) (fun _ _ h=>h)
   have E':=hid (R2.out.set23 (.slice x1 (digs (a*P+b*Q)).length y1) (.slice x2 (digs (c*P+d*Q)).length y2))
   have L':=hid (R1.out.stored R2.out K)
   have S':=hid (sb_kp R3.out K (fun e=>eb_not_sb R2.out R3.out e.symm))
   have W':=hid (HW.out.trans (R4.out.trans (K.below (Nat.le_trans HZ.out R4.out.size) (fun _ e=>e▸HBg.out))))
   clear d0 d1 d2 d3 d4 f2 f3 K
   go_wp2_with fail
   go_meet
   exact⟨_,_,E',L',S',W'⟩
 case rest =>
  clear HEb H4 HS HW HZ c0 c1 c2 c3 c4 HBl
  obtain⟨vp,vq,HEb,H4,HS,HW⟩:=hcut
  have HZ:=hid (Nat.le_trans HB.out HW.out.size)
  have HBl:=hid (blend_any B vf vs (digs F) (digs S) (-(a:Int)) ((b:Int)) ((c:Int)) (-(d:Int)) f s wc.drew (by omega) (by omega) (by omega) (by omega) (by omega) (by omega) (by omega) (by omega)
   (digs_lt _) (digs_lt _) (by omega) (by omega) (by rw[wval_digs,wval_digs];exact HE1.out) (by rw[wval_digs,wval_digs];exact HE2.out) H4.out.f H4.out.s H4.out.fs HZ.out)
  obtain⟨c0,c1,c2,c3,c4⟩:=HEb.out.cells
  obtain⟨s0,s1,s2,s3,s4⟩:=sb_cells HS.out
  have v1:IntKind.i64.wrap (-(a:Int)) = -(a:Int):=IntWalk.i64_in _ (by omega)
  have v2:IntKind.i64.wrap (-(b:Int)) = -(b:Int):=IntWalk.i64_in _ (by omega)
  have v3:IntKind.i64.wrap (-(c:Int)) = -(c:Int):=IntWalk.i64_in _ (by omega)
  have v4:IntKind.i64.wrap (-(d:Int)) = -(d:Int):=IntWalk.i64_in _ (by omega)
  have v5:IntKind.i64.wrap (b:Int)=(b:Int):=IntWalk.i64_in _ (by omega)
  have v6:IntKind.i64.wrap (c:Int)=(c:Int):=IntWalk.i64_in _ (by omega)
  go_upto_region 5 with fail
  go_cut [52] (fun _ wx=>∃ vf vs:Value,Hid (Eb wx g vf vs vp vq n)∧Hid (St4 B wx vf vs vp vq f s (a*P+b*Q) (c*P+d*Q))∧Hid (Sb wx k a b c d true)∧Hid (Below B w wx))
  case first =>
   go_region_with (go_at_call 183;go_must (refine HBl.out.mono ?_;rintro e w2 ⟨u1,u2,rfl,o1,o2,ap,n1,n2,hk⟩;obtain⟨r1,r2,r3,r4⟩:=H4.out.blendFS HEb.out HS.out HZ.out o1 o2 ap n1 n2 (Kp.undrew hk);obtain⟨x1,y1,rfl⟩:=rd_form o1.rd;obtain⟨x2,y2,rfl⟩:=rd_form o2.rd;have R1:=hid r1;have R2:=hid r2;have R3:=hid r3;have R4:=hid r4;obtain⟨d0,d1,d2,d3,d4⟩:=r2.cells;have f0:=r2.free 0;have f1:=r2.free 1;clear o1 o2 ap n1 n2 hk r1 r2 r3 r4))
   all_goals
        have K:=(kp_set (w:=w2) g 0 (.slice x1 (digs f).length y1)).trans (kp_set g 1 (.slice x2 (digs s).length y2)) (fun _ _ h=>h)
        have E':=hid (R2.out.set01 (.slice x1 (digs f).length y1) (.slice x2 (digs s).length y2))
        have L':=hid (R1.out.stored R2.out K)
        have S':=hid (sb_kp R3.out K (fun e=>eb_not_sb R2.out R3.out e.symm))
        have W':=hid (HW.out.trans (R4.out.trans (K.below (Nat.le_trans HZ.out R4.out.size) (fun _ e=>e▸HBg.out))))
        clear d0 d1 d2 d3 d4 f0 f1 K
        go_wp2_with fail
        go_meet
        exact⟨_,_,E',L',S',W'⟩
  case rest =>
   clear HEb H4 HS HW HZ c0 c1 c2 c3 c4 HBl s0 s1 s2 s3 s4 v1 v2 v3 v4 v5 v6
   obtain⟨vf,vs,HEb,H4,HS,HW⟩:=hcut
   obtain⟨c0,c1,c2,c3,c4⟩:=HEb.out.cells
   obtain⟨s0,s1,s2,s3,s4⟩:=sb_cells HS.out
   have f4:=HEb.out.free 4
   go_wp2
   go_region
   all_goals
        clear c0 c1 c2 c3 c4 s0 s1 s2 s3 s4 f4
        go_wp2
        go_end0
        have K:Kp (fun k=>k=g) wc (wc.setCell ⟨g,4,none⟩ (.bool (!n))).drew:=(kp_set g 4 (.bool (!n))).drew
        refine⟨rfl,⟨vf,vs,vp,vq,?_,HBg.out,H4.out.stored HEb.out K⟩,HW.out.trans (K.below (Nat.le_trans HB.out HW.out.size) (fun _ e=>e▸HBg.out))⟩
        have E:=HEb.out.set4 (!n)
        have e:(n != true)=(!n):=by cases n<;>rfl
        rw[e]
        exact E
end Go.Proofs.YtcihodmmaclihaaGreatDoor
