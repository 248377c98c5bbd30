/- texts -/
import Derived.Test.YtodcdibanokjjaaGreatDoorMz21q
import Derived.Test.YtodcdibanokjjaaGreatDoorMz22q
set_option maxRecDepth 100000
set_option maxHeartbeats 20000000
open Go.Lib (hid)
namespace Go.Proofs.YtodcdibanokjjaaGreatDoor
open Go.RowKit Go.Gb
theorem Kp.undrew {S:Nat→Prop}{a b:World}(h:Kp S a.drew b):Kp S a b:=⟨h.os,h.tape,h.output,h.size,h.block⟩
theorem je {w:World}{g k a b c d:Nat}{o n:Bool}{vf vs vp vq:Value}(h:Eb w g vf vs vp vq n)(hs:Sb w k a b c d o):g≠k:=by
 intro e;subst e;unfold Eb at h
 unfold Sb at hs
 rw[h]at hs;injection hs with hs
 injection hs with e1 e2 e3
 exact absurd e2 (by decide)
theorem xB {w w':World}{k a b c d:Nat}{o:Bool}(hs:Sb w k a b c d o){Z:Nat→Prop}(hk:Kp Z w w')(hn:¬ Z k):Sb w' k a b c d o:=by
 unfold Sb at *
 rw[hk.block k (Array.getElem?_eq_some_iff.1 hs).1 hn];exact hs
theorem ko {w:World}{k a b c d B:Nat}{o:Bool}{v:Value}{xs:List Nat}(h:Sb w k a b c d o)(ho:Gb.Own .u64 120 B w v xs):¬ At v k:=by
 intro hg;obtain⟨_,h2⟩:=ho;rcases h2 with⟨rfl,_⟩|⟨j,cap,cur,rfl,_,hh,_⟩
 · exact at_nil _ _ _ hg
 · rw[fe]at hg
   subst hg;unfold Sb at h
   rw[h]at hh;injection hh with hh
   injection hh with e1 e2 e3
   exact absurd e2 (by decide)
theorem St4.blendPQ {B g k:Nat}{w w':World}{vf vs vp vq u1 u2:Value}{F S P Q P' Q' a b c d:Nat}{n o:Bool}(L:St4 B w vf vs vp vq F S P Q)(E:Eb w g vf vs vp vq n)(K:Sb w k a b c d o)(hB:B≤w.heap.size)
 (o1:Gb.Own .u64 120 B w' u1 (ae P')) (o2:Gb.Own .u64 120 B w' u2 (ae Q')) (ap:Apt u1 u2) (n1:fC w vp u1) (n2:fC w vq u2) (hk:Kp (fun g=>At vp g∨At vq g) w w') :
 St4 B w' vf vs u1 u2 F S P' Q'∧Eb w' g vf vs vp vq n∧Sb w' k a b c d o∧Below B w w' :=
 ⟨⟨L.f.kp hk (fun _ h1 h2=>h2.elim (L.fp _ h1) (L.fq _ h1)),L.s.kp hk (fun _ h1 h2=>h2.elim (L.sp _ h1) (L.sq _ h1)),o1,o2,L.fs,(L.fp.symm.newOr n1 (fun _ h=>(L.f.at h).2)).symm,(L.fq.symm.newOr n2 (fun _ h=>(L.f.at h).2)).symm,
   (L.sp.symm.newOr n1 (fun _ h=>(L.s.at h).2)).symm,(L.sq.symm.newOr n2 (fun _ h=>(L.s.at h).2)).symm,ap⟩,
  E.kp hk (fun h=>h.elim (E.apart L.p) (E.apart L.q)),xB K hk (fun h=>h.elim (ko K L.p) (ko K L.q)),hk.below hB (fun _ h=>h.elim (fun h=>(L.p.at h).1) (fun h=>(L.q.at h).1))⟩
theorem St4.blendFS {B g k:Nat}{w w':World}{vf vs vp vq u1 u2:Value}{F S P Q F' S' a b c d:Nat}{n o:Bool}(L:St4 B w vf vs vp vq F S P Q)(E:Eb w g vf vs vp vq n)(K:Sb w k a b c d o)(hB:B≤w.heap.size)
 (o1:Gb.Own .u64 120 B w' u1 (ae F')) (o2:Gb.Own .u64 120 B w' u2 (ae S')) (ap:Apt u1 u2) (n1:fC w vf u1) (n2:fC w vs u2) (hk:Kp (fun g=>At vf g∨At vs g) w w') :
 St4 B w' u1 u2 vp vq F' S' P Q∧Eb w' g vf vs vp vq n∧Sb w' k a b c d o∧Below B w w' :=
 ⟨⟨o1,o2,L.p.kp hk (fun _ h1 h2=>h2.elim (fun h=>L.fp _ h h1) (fun h=>L.sp _ h h1)),L.q.kp hk (fun _ h1 h2=>h2.elim (fun h=>L.fq _ h h1) (fun h=>L.sq _ h h1)),ap,L.fp.newOr n1 (fun _ h=>(L.p.at h).2),L.fq.newOr n1 (fun _ h=>(L.q.at h).2),
   L.sp.newOr n2 (fun _ h=>(L.p.at h).2),L.sq.newOr n2 (fun _ h=>(L.q.at h).2),L.pq⟩,
  E.kp hk (fun h=>h.elim (E.apart L.f) (E.apart L.s)),xB K hk (fun h=>h.elim (ko K L.f) (ko K L.s)),hk.below hB (fun _ h=>h.elim (fun h=>(L.f.at h).1) (fun h=>(L.s.at h).1))⟩
theorem St4.stored {B g:Nat}{w w':World}{vf vs vp vq wf ws wp wq:Value}{F S P Q:Nat}{n:Bool}(L:St4 B w vf vs vp vq F S P Q)(E:Eb w g wf ws wp wq n)(hk:Kp (fun k=>k=g) w w'):St4 B w' vf vs vp vq F S P Q :=
 L.kp hk (fun _ h e=>by subst e;exact h.elim (E.apart L.f) (fun h=>h.elim (E.apart L.s) (fun h=>h.elim (E.apart L.p) (E.apart L.q))))
theorem xX (B g F S P Q a b c d f s:Nat)(n:Bool)(hm:Made a b c d false F S f s)(hf:Fac a b c d)(hd9:d≤1000000000)(hlF:(ae F).length≤80000)(hlS:(ae S).length≤80000)(hlP:(ae P).length≤80000)(hlQ:(ae Q).length≤80000)(w:World)(h:EuSt B w g F S P Q n)(hB:B≤w.heap.size) :
 Calls Tryz.prog 194 #[.pointer (some ⟨g,0,none⟩),.agg #[.int .u64 (a:Int),.int .u64 (b:Int),.int .u64 (c:Int),.int .u64 (d:Int),.bool false]] w fun e w'=>e=.returned (.tuple #[])∧Hid (EuSt B w' g f s (a*P+b*Q) (c*P+d*Q) (n != false))∧Below B w w':=by
 obtain⟨ha9,hb9,hc9⟩:=hf.le hd9 (by omega);obtain⟨vf,vs,vp,vq,hE,hBg,h4⟩:=h;obtain⟨e1,e2⟩:=hm.even;obtain ⟨HE1,HE2,HBg,HB⟩:=aG e1 e2 hBg hB;have hw0:=(Below.refl w.heap.size w).alloc (Nat.le_refl _) (.cells #[.int .u64 (a:Int),.int .u64 (b:Int),.int .u64 (c:Int),.int .u64 (d:Int),.bool false] 181);obtain ⟨HEb,H4,HS,HW⟩:=aG (hE.below hw0) (h4.below hw0) (kg w a b c d false) (hw0.mono hB);have HZ:=hid (show B≤(w.alloc (.cells #[.int .u64 (a:Int),.int .u64 (b:Int),.int .u64 (c:Int),.int .u64 (d:Int),.bool false] 181)).heap.size by rw[World.size_alloc];omega);clear hm hf e1 e2 hBg hB hw0 hE h4;obtain⟨s0,s1,s2,s3,s4⟩:=bE HS.out;obtain⟨k,hk⟩:∃ k,k=w.heap.size:=⟨_,rfl⟩;rw[← hk]at HS s0 s1 s2 s3 s4;have HK:=hid hk;go_enter Tryz.func194,Tryz.ntmps194
 go_upto_region 1 with fail
 rw[← hk];clear hk;generalize w.alloc (.cells #[.int .u64 (a:Int),.int .u64 (b:Int),.int .u64 (c:Int),.int .u64 (d:Int),.bool false] 181)=w0 at *;go_wp2;go_quiet (fail)
 have HEb:=hid (show Eb (w0.drewN nq) g vf vs vp vq n from HEb.out);have H4:=hid (show St4 B (w0.drewN nq) vf vs vp vq F S P Q from H4.out.kp ((Kp.refl (fun _=>False) w0).drewN nq) (fun _ _ h=>h));have HS:=hid (show Sb (w0.drewN nq) k a b c d false from HS.out);have HW:=hid (show Below B w (w0.drewN nq) from below_drewN' HW.out nq);have HZ:=hid (show B≤(w0.drewN nq).heap.size from HZ.out);clear s0 s1 s2 s3 s4;generalize w0.drewN nq=w1 at *
 have HBl:=hid (jh B vp vq (ae P) (ae Q) a b c d (a*P+b*Q) (c*P+d*Q) w1.drew (by omega) (by omega) (by omega) (by omega) (by omega) (by omega) (by omega) (by omega)
  (aT _) (aT _) (by omega) (by omega) (by rw[az,az,Int.natCast_add,Int.natCast_mul,Int.natCast_mul]) (by rw[az,az,Int.natCast_add,Int.natCast_mul,Int.natCast_mul]) H4.out.p H4.out.q H4.out.pq HZ.out)
 obtain⟨c0,c1,c2,c3,c4⟩:=HEb.out.cells;go_upto_region 2 with fail
 go_cut [20] (fun _ wx=>∃ vp vq:Value,Hid (Eb wx g vf vs vp vq n)∧Hid (St4 B wx vf vs vp vq F S (a*P+b*Q) (c*P+d*Q))∧Hid (Sb wx k a b c d false)∧Hid (Below B w wx))
 case first =>
  go_region_with (go_at_call 223;go_must (refine HBl.out.mono ?_;rintro e w2 ⟨u1,u2,rfl,o1,o2,ap,n1,n2,hk⟩;obtain⟨r1,r2,r3,r4⟩:=H4.out.blendPQ HEb.out HS.out HZ.out o1 o2 ap n1 n2 (Kp.undrew hk);obtain⟨x1,y1,rfl⟩:=aW o1.rd;obtain⟨x2,y2,rfl⟩:=aW o2.rd;have R1:=hid r1;have R2:=hid r2;have R3:=hid r3;have R4:=hid r4;obtain⟨d0,d1,d2,d3,d4⟩:=r2.cells;have f2:=r2.free 2;have f3:=r2.free 3;clear o1 o2 ap n1 n2 hk r1 r2 r3 r4))
  all_goals
   have K:=(gB (w:=w2) g 2 (.slice x1 (ae (a*P+b*Q)).length y1)).trans (gB g 3 (.slice x2 (ae (c*P+d*Q)).length y2)) (fun _ _ h=>h);have E':=hid (R2.out.set23 (.slice x1 (ae (a*P+b*Q)).length y1) (.slice x2 (ae (c*P+d*Q)).length y2));have L':=hid (R1.out.stored R2.out K);have S':=hid (xB R3.out K (fun e=>je R2.out R3.out e.symm));have W':=hid (HW.out.trans (R4.out.trans (K.below (Nat.le_trans HZ.out R4.out.size) (fun _ e=>e▸HBg.out))));clear d0 d1 d2 d3 d4 f2 f3 K;go_wp2_with fail
   go_meet
   exact⟨_,_,E',L',S',W'⟩
 case rest =>
  clear HEb H4 HS HW HZ c0 c1 c2 c3 c4 HBl;obtain⟨vp,vq,HEb,H4,HS,HW⟩:=hcut;have HZ:=hid (Nat.le_trans HB.out HW.out.size)
  have HBl:=hid (jh B vf vs (ae F) (ae S) ((a:Int)) (-(b:Int)) (-(c:Int)) ((d:Int)) f s wc.drew (by omega) (by omega) (by omega) (by omega) (by omega) (by omega) (by omega) (by omega)
   (aT _) (aT _) (by omega) (by omega) (by rw[az,az];exact HE1.out) (by rw[az,az];exact HE2.out) H4.out.f H4.out.s H4.out.fs HZ.out)
  obtain⟨c0,c1,c2,c3,c4⟩:=HEb.out.cells;obtain⟨s0,s1,s2,s3,s4⟩:=bE HS.out;have v1:IntKind.i64.wrap (-(a:Int)) = -(a:Int):=IntWalk.i64_in _ (by omega);have v2:IntKind.i64.wrap (-(b:Int)) = -(b:Int):=IntWalk.i64_in _ (by omega);have v3:IntKind.i64.wrap (-(c:Int)) = -(c:Int):=IntWalk.i64_in _ (by omega);have v4:IntKind.i64.wrap (-(d:Int)) = -(d:Int):=IntWalk.i64_in _ (by omega);have v5:IntKind.i64.wrap (b:Int)=(b:Int):=IntWalk.i64_in _ (by omega);have v6:IntKind.i64.wrap (c:Int)=(c:Int):=IntWalk.i64_in _ (by omega);go_upto_region 5 with fail
  go_cut [52] (fun _ wx=>∃ vf vs:Value,Hid (Eb wx g vf vs vp vq n)∧Hid (St4 B wx vf vs vp vq f s (a*P+b*Q) (c*P+d*Q))∧Hid (Sb wx k a b c d false)∧Hid (Below B w wx))
  case first =>
   go_region_with (go_at_call 223;go_must (refine HBl.out.mono ?_;rintro e w2 ⟨u1,u2,rfl,o1,o2,ap,n1,n2,hk⟩;obtain⟨r1,r2,r3,r4⟩:=H4.out.blendFS HEb.out HS.out HZ.out o1 o2 ap n1 n2 (Kp.undrew hk);obtain⟨x1,y1,rfl⟩:=aW o1.rd;obtain⟨x2,y2,rfl⟩:=aW o2.rd;have R1:=hid r1;have R2:=hid r2;have R3:=hid r3;have R4:=hid r4;obtain⟨d0,d1,d2,d3,d4⟩:=r2.cells;have f0:=r2.free 0;have f1:=r2.free 1;clear o1 o2 ap n1 n2 hk r1 r2 r3 r4))
   all_goals
        have K:=(gB (w:=w2) g 0 (.slice x1 (ae f).length y1)).trans (gB g 1 (.slice x2 (ae s).length y2)) (fun _ _ h=>h);obtain ⟨E',L'⟩:=aF (R2.out.set01 (.slice x1 (ae f).length y1) (.slice x2 (ae s).length y2)) (R1.out.stored R2.out K);have S':=hid (xB R3.out K (fun e=>je R2.out R3.out e.symm));have W':=hid (HW.out.trans (R4.out.trans (K.below (Nat.le_trans HZ.out R4.out.size) (fun _ e=>e▸HBg.out))));clear d0 d1 d2 d3 d4 f0 f1 K;go_wp2_with fail
        go_meet
        exact⟨_,_,E',L',S',W'⟩
  case rest =>
   clear HEb H4 HS HW HZ c0 c1 c2 c3 c4 HBl s0 s1 s2 s3 s4 v1 v2 v3 v4 v5 v6;obtain⟨vf,vs,HEb,H4,HS,HW⟩:=hcut;obtain⟨c0,c1,c2,c3,c4⟩:=HEb.out.cells;obtain⟨s0,s1,s2,s3,s4⟩:=bE HS.out;have f4:=HEb.out.free 4;go_wp2;go_region
   all_goals
        clear c0 c1 c2 c3 c4 s0 s1 s2 s3 s4 f4;go_wp2;go_end0
        have K:Kp (fun k=>k=g) wc (wc.setCell ⟨g,4,none⟩ (.bool n)).drew:=(gB g 4 (.bool n)).drew;refine⟨rfl,⟨vf,vs,vp,vq,?_,HBg.out,H4.out.stored HEb.out K⟩,HW.out.trans (K.below (Nat.le_trans HB.out HW.out.size) (fun _ e=>e▸HBg.out))⟩;have E:=HEb.out.set4 n;have e:(n != false)=n:=by cases n<;>rfl
        rw[e];exact E
open Go.Lib (hid)
theorem z0q (B g F S P Q a b c d f s:Nat)(n:Bool)(hm:Made a b c d true F S f s)(hf:Fac a b c d)(hd9:d≤1000000000)(hlF:(ae F).length≤80000)(hlS:(ae S).length≤80000)(hlP:(ae P).length≤80000)(hlQ:(ae Q).length≤80000)(w:World)(h:EuSt B w g F S P Q n)(hB:B≤w.heap.size) :
 Calls Tryz.prog 194 #[.pointer (some ⟨g,0,none⟩),.agg #[.int .u64 (a:Int),.int .u64 (b:Int),.int .u64 (c:Int),.int .u64 (d:Int),.bool true]] w fun e w'=>e=.returned (.tuple #[])∧Hid (EuSt B w' g f s (a*P+b*Q) (c*P+d*Q) (n != true))∧Below B w w':=by
 obtain⟨ha9,hb9,hc9⟩:=hf.le hd9 (by omega);obtain⟨vf,vs,vp,vq,hE,hBg,h4⟩:=h;obtain⟨e1,e2⟩:=hm.odd;obtain ⟨HE1,HE2,HBg,HB⟩:=aG e1 e2 hBg hB;have hw0:=(Below.refl w.heap.size w).alloc (Nat.le_refl _) (.cells #[.int .u64 (a:Int),.int .u64 (b:Int),.int .u64 (c:Int),.int .u64 (d:Int),.bool true] 181);obtain ⟨HEb,H4,HS,HW⟩:=aG (hE.below hw0) (h4.below hw0) (kg w a b c d true) (hw0.mono hB);have HZ:=hid (show B≤(w.alloc (.cells #[.int .u64 (a:Int),.int .u64 (b:Int),.int .u64 (c:Int),.int .u64 (d:Int),.bool true] 181)).heap.size by rw[World.size_alloc];omega);clear hm hf e1 e2 hBg hB hw0 hE h4;obtain⟨s0,s1,s2,s3,s4⟩:=bE HS.out;obtain⟨k,hk⟩:∃ k,k=w.heap.size:=⟨_,rfl⟩;rw[← hk]at HS s0 s1 s2 s3 s4;have HK:=hid hk;go_enter Tryz.func194,Tryz.ntmps194
 go_upto_region 1 with fail
 rw[← hk];clear hk;generalize w.alloc (.cells #[.int .u64 (a:Int),.int .u64 (b:Int),.int .u64 (c:Int),.int .u64 (d:Int),.bool true] 181)=w0 at *;go_wp2;go_quiet (fail)
 have HEb:=hid (show Eb (w0.drewN nq) g vf vs vp vq n from HEb.out);have H4:=hid (show St4 B (w0.drewN nq) vf vs vp vq F S P Q from H4.out.kp ((Kp.refl (fun _=>False) w0).drewN nq) (fun _ _ h=>h));have HS:=hid (show Sb (w0.drewN nq) k a b c d true from HS.out);have HW:=hid (show Below B w (w0.drewN nq) from below_drewN' HW.out nq);have HZ:=hid (show B≤(w0.drewN nq).heap.size from HZ.out);clear s0 s1 s2 s3 s4;generalize w0.drewN nq=w1 at *
 have HBl:=hid (jh B vp vq (ae P) (ae Q) a b c d (a*P+b*Q) (c*P+d*Q) w1.drew (by omega) (by omega) (by omega) (by omega) (by omega) (by omega) (by omega) (by omega)
  (aT _) (aT _) (by omega) (by omega) (by rw[az,az,Int.natCast_add,Int.natCast_mul,Int.natCast_mul]) (by rw[az,az,Int.natCast_add,Int.natCast_mul,Int.natCast_mul]) H4.out.p H4.out.q H4.out.pq HZ.out)
 obtain⟨c0,c1,c2,c3,c4⟩:=HEb.out.cells;go_upto_region 2 with fail
 go_cut [20] (fun _ wx=>∃ vp vq:Value,Hid (Eb wx g vf vs vp vq n)∧Hid (St4 B wx vf vs vp vq F S (a*P+b*Q) (c*P+d*Q))∧Hid (Sb wx k a b c d true)∧Hid (Below B w wx))
 case first =>
  go_region_with (go_at_call 223;go_must (refine HBl.out.mono ?_;rintro e w2 ⟨u1,u2,rfl,o1,o2,ap,n1,n2,hk⟩;obtain⟨r1,r2,r3,r4⟩:=H4.out.blendPQ HEb.out HS.out HZ.out o1 o2 ap n1 n2 (Kp.undrew hk);obtain⟨x1,y1,rfl⟩:=aW o1.rd;obtain⟨x2,y2,rfl⟩:=aW o2.rd;have R1:=hid r1;have R2:=hid r2;have R3:=hid r3;have R4:=hid r4;obtain⟨d0,d1,d2,d3,d4⟩:=r2.cells;have f2:=r2.free 2;have f3:=r2.free 3;clear o1 o2 ap n1 n2 hk r1 r2 r3 r4))
  all_goals
   have K:=(gB (w:=w2) g 2 (.slice x1 (ae (a*P+b*Q)).length y1)).trans (gB g 3 (.slice x2 (ae (c*P+d*Q)).length y2)) (fun _ _ h=>h);have E':=hid (R2.out.set23 (.slice x1 (ae (a*P+b*Q)).length y1) (.slice x2 (ae (c*P+d*Q)).length y2));have L':=hid (R1.out.stored R2.out K);have S':=hid (xB R3.out K (fun e=>je R2.out R3.out e.symm));have W':=hid (HW.out.trans (R4.out.trans (K.below (Nat.le_trans HZ.out R4.out.size) (fun _ e=>e▸HBg.out))));clear d0 d1 d2 d3 d4 f2 f3 K;go_wp2_with fail
   go_meet
   exact⟨_,_,E',L',S',W'⟩
 case rest =>
  clear HEb H4 HS HW HZ c0 c1 c2 c3 c4 HBl;obtain⟨vp,vq,HEb,H4,HS,HW⟩:=hcut;have HZ:=hid (Nat.le_trans HB.out HW.out.size)
  have HBl:=hid (jh B vf vs (ae F) (ae S) (-(a:Int)) ((b:Int)) ((c:Int)) (-(d:Int)) f s wc.drew (by omega) (by omega) (by omega) (by omega) (by omega) (by omega) (by omega) (by omega)
   (aT _) (aT _) (by omega) (by omega) (by rw[az,az];exact HE1.out) (by rw[az,az];exact HE2.out) H4.out.f H4.out.s H4.out.fs HZ.out)
  obtain⟨c0,c1,c2,c3,c4⟩:=HEb.out.cells;obtain⟨s0,s1,s2,s3,s4⟩:=bE HS.out;have v1:IntKind.i64.wrap (-(a:Int)) = -(a:Int):=IntWalk.i64_in _ (by omega);have v2:IntKind.i64.wrap (-(b:Int)) = -(b:Int):=IntWalk.i64_in _ (by omega);have v3:IntKind.i64.wrap (-(c:Int)) = -(c:Int):=IntWalk.i64_in _ (by omega);have v4:IntKind.i64.wrap (-(d:Int)) = -(d:Int):=IntWalk.i64_in _ (by omega);have v5:IntKind.i64.wrap (b:Int)=(b:Int):=IntWalk.i64_in _ (by omega);have v6:IntKind.i64.wrap (c:Int)=(c:Int):=IntWalk.i64_in _ (by omega);go_upto_region 5 with fail
  go_cut [52] (fun _ wx=>∃ vf vs:Value,Hid (Eb wx g vf vs vp vq n)∧Hid (St4 B wx vf vs vp vq f s (a*P+b*Q) (c*P+d*Q))∧Hid (Sb wx k a b c d true)∧Hid (Below B w wx))
  case first =>
   go_region_with (go_at_call 223;go_must (refine HBl.out.mono ?_;rintro e w2 ⟨u1,u2,rfl,o1,o2,ap,n1,n2,hk⟩;obtain⟨r1,r2,r3,r4⟩:=H4.out.blendFS HEb.out HS.out HZ.out o1 o2 ap n1 n2 (Kp.undrew hk);obtain⟨x1,y1,rfl⟩:=aW o1.rd;obtain⟨x2,y2,rfl⟩:=aW o2.rd;have R1:=hid r1;have R2:=hid r2;have R3:=hid r3;have R4:=hid r4;obtain⟨d0,d1,d2,d3,d4⟩:=r2.cells;have f0:=r2.free 0;have f1:=r2.free 1;clear o1 o2 ap n1 n2 hk r1 r2 r3 r4))
   all_goals
        have K:=(gB (w:=w2) g 0 (.slice x1 (ae f).length y1)).trans (gB g 1 (.slice x2 (ae s).length y2)) (fun _ _ h=>h);obtain ⟨E',L'⟩:=aF (R2.out.set01 (.slice x1 (ae f).length y1) (.slice x2 (ae s).length y2)) (R1.out.stored R2.out K);have S':=hid (xB R3.out K (fun e=>je R2.out R3.out e.symm));have W':=hid (HW.out.trans (R4.out.trans (K.below (Nat.le_trans HZ.out R4.out.size) (fun _ e=>e▸HBg.out))));clear d0 d1 d2 d3 d4 f0 f1 K;go_wp2_with fail
        go_meet
        exact⟨_,_,E',L',S',W'⟩
  case rest =>
   clear HEb H4 HS HW HZ c0 c1 c2 c3 c4 HBl s0 s1 s2 s3 s4 v1 v2 v3 v4 v5 v6;obtain⟨vf,vs,HEb,H4,HS,HW⟩:=hcut;obtain⟨c0,c1,c2,c3,c4⟩:=HEb.out.cells;obtain⟨s0,s1,s2,s3,s4⟩:=bE HS.out;have f4:=HEb.out.free 4;go_wp2;go_region
   all_goals
        clear c0 c1 c2 c3 c4 s0 s1 s2 s3 s4 f4;go_wp2;go_end0
        have K:Kp (fun k=>k=g) wc (wc.setCell ⟨g,4,none⟩ (.bool (!n))).drew:=(gB g 4 (.bool (!n))).drew;refine⟨rfl,⟨vf,vs,vp,vq,?_,HBg.out,H4.out.stored HEb.out K⟩,HW.out.trans (K.below (Nat.le_trans HB.out HW.out.size) (fun _ e=>e▸HBg.out))⟩;have E:=HEb.out.set4 (!n);have e:(n != true)=(!n):=by cases n<;>rfl
        rw[e];exact E
end Go.Proofs.YtodcdibanokjjaaGreatDoor
namespace Go.Gb
theorem z2F {Yt Z V r P t c B:Nat}(hZ:Z<P)(hr:r<P)(hs:Yt+V=Z+P*c)(hY:Yt+P*t+V=r+P*B):c+t=B:=by
 have h:Z+P*(c+t)=r+P*B:=by rw[Nat.mul_add];omega
 have hP:0<P:=by omega
 have h1:=congrArg (· / P) h;simp only[Nat.add_mul_div_left _ _ hP,Nat.div_eq_of_lt hZ,Nat.div_eq_of_lt hr,Nat.zero_add]at h1;exact h1
end Go.Gb
namespace Go.Proofs.YtodcdibanokjjaaGreatDoor
open Go.RowKit Go.Gb
def Row4 (w:World) (g cap:Nat) (zs:List Nat):Prop:=∃ cur:Array Value,w.heap[g]? = some (.cells cur 79 (0,0))∧cur.size=cap∧zs.length≤cap∧cur.toList.take zs.length=cls .u32 zs
theorem Row4.lt {w:World}{g cap:Nat}{zs:List Nat}(h:Row4 w g cap zs):g<w.heap.size:=by
 obtain⟨cur,h1,_⟩:=h;exact(Array.getElem?_eq_some_iff.1 h1).1
theorem Row4.le {w:World}{g cap:Nat}{zs:List Nat}(h:Row4 w g cap zs):zs.length≤cap:=by
 obtain⟨cur,_,_,h3,_⟩:=h;exact h3
theorem Row4.cell {w:World}{g cap:Nat}{zs:List Nat}(h:Row4 w g cap zs){i:Nat}(hi:i<zs.length):w.cell? ⟨g,i,none⟩=some (.int .u32 ((zs.getD i 0:Nat):Int)):=by
 obtain⟨cur,h1,h2,h3,h4⟩:=h;have h5:=jg (k:=.u32) hi;rw[← h4,List.getElem?_take,if_pos hi]at h5;simp only[World.cell?,h1];simpa using h5
theorem Row4.free {w:World}{g cap:Nat}{zs:List Nat}(h:Row4 w g cap zs)(i:Nat):w.frozen? ⟨g,i,none⟩=false:=by
 obtain⟨cur,h1,h2,h3,h4⟩:=h;simp only[World.frozen?,h1];simp
theorem Row4.set {w:World}{g cap:Nat}{zs:List Nat}(h:Row4 w g cap zs)(i v:Nat):Row4 (w.setCell ⟨g,i,none⟩ (.int .u32 ((v:Nat):Int))) g cap (zs.set i v):=by
 obtain⟨cur,h1,h2,h3,h4⟩:=h;refine⟨cur.setIfInBounds i (.int .u32 (v:Int)),?_,by simp[h2],by simpa using h3,?_⟩
 · simp only[World.setCell,Array.getElem?_modify,h1]
   simp
 · rw[List.length_set,qF,← h4,Array.toList_setIfInBounds,List.take_set]
theorem Row4.aside {w:World}{g cap k i:Nat}{zs:List Nat}{v:Value}(h:Row4 w g cap zs)(hne:g≠k):Row4 (w.setCell ⟨k,i,none⟩ v) g cap zs:=by
 obtain⟨cur,h1,h2,h3,h4⟩:=h;exact⟨cur,by rw[Below.heap_setCell _ _ _ _ hne];exact h1,h2,h3,h4⟩
theorem Row4.below {w w':World}{g cap:Nat}{zs:List Nat}(h:Row4 w g cap zs)(hb:Below w.heap.size w w'):Row4 w' g cap zs:=by
 obtain⟨cur,h1,h2,h3,h4⟩:=h;exact⟨cur,by rw[hb.block g (Array.getElem?_eq_some_iff.1 h1).1];exact h1,h2,h3,h4⟩
theorem Row4.drewN {w:World}{g cap:Nat}{zs:List Nat}(h:Row4 w g cap zs)(n:Nat):Row4 (w.drewN n) g cap zs:=h
theorem Row4.take {w:World}{g cap:Nat}{zs:List Nat}(h:Row4 w g cap zs)(m:Nat)(hm:m≤zs.length):Row4 w g cap (zs.take m):=by
 obtain⟨cur,h1,h2,h3,h4⟩:=h;refine⟨cur,h1,h2,by simp;omega,?_⟩;rw[mH,← h4,List.take_take,List.length_take,Nat.min_eq_left hm]
theorem Row4.own {w:World}{g cap B:Nat}{zs:List Nat}(h:Row4 w g cap zs)(hB:B≤g)(hm:cap≤maxLen):Gb.Own .u32 79 B w (.slice (some ⟨g,0,none⟩) zs.length cap) zs:=by
 obtain⟨cur,h1,h2,h3,h4⟩:=h;refine⟨by simp[cls],Or.inr ⟨g,cap,cur,rfl,hB,h1,h3,hm,by simp[h2],?_⟩⟩;rw[Nat.mul_one];exact h4
theorem Row4.of_own {w:World}{B:Nat}{v:Value}{zs:List Nat}(h:Gb.Own .u32 79 B w v zs)(hp:0<zs.length):∃ g cap,v=.slice (some ⟨g,0,none⟩) zs.length cap∧B≤g∧cap≤maxLen∧Row4 w g cap zs:=by
 obtain⟨h1,h2⟩:=h;rcases h2 with⟨h2,h3⟩|⟨g,cap,cur,hv,hg,hh,hn,hc,hs,ht⟩
 · omega
 · rw[Nat.mul_one]at hs ht
   exact⟨g,cap,hv,hg,hc,cur,hh,hs,hn,ht⟩
end Go.Proofs.YtodcdibanokjjaaGreatDoor
