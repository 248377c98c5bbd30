/- texts -/
import Derived.Test.YtlgkolkcokaefaaGreatDoorZd
import Derived.Test.YtlgkolkcokaefaaGreatDoorMz28q
open Go.Proofs.Tryz
namespace Go.Proofs.YtlgkolkcokaefaaGreatDoor
open Go.RowKit Go.Gb
theorem z3e (a b:Nat)(h:(ae a).length≤50000):(ae (a-b)).length≤1000000:=by have:=aN (Nat.sub_le a b);omega
theorem z2X {f:FuncId}{args:Array Value}{w:World}{z:Int}(h:Calls Tryz.prog f args w fun e w'=>∃ p c,e=.returned (.agg #[.bool (ai z),.slice p (aa z) c])∧RN w' (.slice p (aa z) c) z.natAbs∧Below w.heap.size w w') :
 Calls Tryz.prog f args w fun e w'=>∃ u,e=.returned u∧Rz w' u z∧Below w.heap.size w w' :=
 h.mono fun _ _ ⟨_,_,e,r,hb⟩=>⟨_,e,Rz.mk r,hb⟩
theorem zC {x y:Int}(h:(ai x==ai y)=true):x+y=(if ai x=true then -((x.natAbs+y.natAbs:Nat):Int) else ((x.natAbs+y.natAbs:Nat):Int)):=by
 unfold ai at *
 by_cases hx:x<0<;>by_cases hy:y<0<;>simp[hx,hy]at h ⊢ <;> omega
theorem oF {x y:Int}(h:(ai x==ai y)=false):(y.natAbs≤x.natAbs→x+y=(if ai x=true then -((x.natAbs-y.natAbs:Nat):Int) else ((x.natAbs-y.natAbs:Nat):Int)))∧(x.natAbs<y.natAbs→x+y=(if ai y=true then -((y.natAbs-x.natAbs:Nat):Int) else ((y.natAbs-x.natAbs:Nat):Int))):=by
 unfold ai at *
 by_cases hx:x<0<;>by_cases hy:y<0<;>simp[hx,hy]at h ⊢ <;> constructor<;>intro h2<;>omega
theorem z3Z (u1 u2:Value)(x y:Int)(hx:(ae x.natAbs).length≤50000)(hy:(ae y.natAbs).length≤50000)(w:World)(h1:Rz w u1 x)(h2:Rz w u2 y) :
 Calls Tryz.prog 86 #[u1,u2] w fun e w'=>∃ u,e=.returned u∧Rz w' u (x+y)∧Below w.heap.size w w':=by
 obtain⟨p1,c1,rfl,r1⟩:=h1.sh;obtain⟨p2,c2,rfl,r2⟩:=h2.sh;have hsl:=ib hx hy;have hx':ag x.natAbs≤50000:=hx;have hy':ag y.natAbs≤50000:=hy;have hsl':ag (x.natAbs+y.natAbs)≤50001:=hsl;have hd1:ag (x.natAbs-y.natAbs)≤1000000:=z3e _ _ hx;have hd2:ag (y.natAbs-x.natAbs)≤1000000:=z3e _ _ hy;refine z2X ?_
 cases hs:(ai x==ai y) with
 | true=>exact yg x y (x+y) (x.natAbs+y.natAbs) hs p1 c1 p2 c2 w (fun p1 c1 p2 c2 W h1 h2=>z5m _ _ _ _ (by omega) (by omega) W h1 h2) (fun s d W h=>mg _ _ _ _ (zC hs) (by omega) W h) r1 r2
 | false =>
   rcases Nat.lt_or_ge x.natAbs y.natAbs with h|h
   · exact z2F x y (x+y) (y.natAbs-x.natAbs) (-1) (by decide) hs p1 c1 p2 c2 w (fun p1 c1 p2 c2 W h1 h2=>by have k:=cCmp (.slice p1 (aa x) c1) (.slice p2 (aa y) c2) x.natAbs y.natAbs (by omega) W h1 h2;rwa [fF h]at k) (fun p1 c1 p2 c2 W h1 h2=>z3f _ _ _ _ (by omega) (by omega) W h1 h2) (fun s d W h'=>mg _ _ _ _ ((oF hs).2 h) hd2 W h') r1 r2
   · exact z2G x y (x+y) (x.natAbs-y.natAbs) (cmpN x.natAbs y.natAbs) (by unfold cmpN;split<;>(try split)<;>omega) hs p1 c1 p2 c2 w (fun p1 c1 p2 c2 W h1 h2=>cCmp _ _ _ _ (by omega) W h1 h2) (fun p1 c1 p2 c2 W h1 h2=>z3f _ _ _ _ h (by omega) W h1 h2) (fun s d W h'=>mg _ _ _ _ ((oF hs).1 h) hd1 W h') r1 r2
theorem xk (x y:Int):x*y=(if (decide (x<0) != decide (y<0)) then -((x.natAbs*y.natAbs:Nat):Int) else ((x.natAbs*y.natAbs:Nat):Int)):=by
 rw[Int.natCast_mul];by_cases hx:x<0
 · by_cases hy:y<0
   · have e1:(x.natAbs:Int) = -x:=by omega
     have e2:(y.natAbs:Int) = -y:=by omega
     rw[e1,e2];simp[hx,hy,Int.neg_mul,Int.mul_neg]
   · have e1:(x.natAbs:Int) = -x:=by omega
     have e2:(y.natAbs:Int)=y:=by omega
     rw[e1,e2];simp[hx,hy,Int.neg_mul]
 · by_cases hy:y<0
   · have e1:(x.natAbs:Int)=x:=by omega
     have e2:(y.natAbs:Int) = -y:=by omega
     rw[e1,e2];simp[hx,hy,Int.mul_neg]
   · have e1:(x.natAbs:Int)=x:=by omega
     have e2:(y.natAbs:Int)=y:=by omega
     rw[e1,e2];simp[hx,hy]
theorem z3X (u1 u2:Value)(x y:Int)(hx:(ae x.natAbs).length≤50000)(hy:(ae y.natAbs).length≤50000)(w:World)(h1:Rz w u1 x)(h2:Rz w u2 y) :
 Calls Tryz.prog 82 #[u1,u2] w fun e w'=>∃ u,e=.returned u∧Rz w' u (x*y)∧Below w.heap.size w w':=by
 obtain⟨p1,c1,rfl,r1⟩:=h1.sh;obtain⟨p2,c2,rfl,r2⟩:=h2.sh;have hml:=gZ x.natAbs y.natAbs;have hml':ag (x.natAbs*y.natAbs)≤ag x.natAbs+ag y.natAbs:=hml;have hx':ag x.natAbs≤50000:=hx;have hy':ag y.natAbs≤50000:=hy;exact z2X (yf x y (x*y) (x.natAbs*y.natAbs) p1 c1 p2 c2 w (fun p1 c1 p2 c2 W h1 h2=>nP _ _ _ _ (by omega) (by omega) W h1 h2) (fun s d W h=>mg _ _ _ _ (xk x y) (by omega) W h) r1 r2)
theorem vS {w:World}{v:Value}{xs:List Nat}{g:Nat}{b:Bool}{q:Option Addr}{l c:Nat}{T:TypeId}{fz:Nat × Nat}(hg:w.heap[g]? = some (.cells #[.bool b,.slice q l c] T fz))(h:Rd .u32 w v xs)(i:Nat)(u:Value):Rd .u32 (w.setCell ⟨g,i,none⟩ u) v xs:=by
 rcases h with h|⟨b',o,c',h1,h2,h3,h4,h5⟩
 · exact Or.inl h
 · refine Or.inr ⟨b',o,c',h1,h2,h3,by simpa [World.setCell] using h4,fun j hj=>?_⟩
   have h6:=h5 j hj
   have hne:b'≠g:=by
    intro e;subst e;simp only[World.cell?,hg]at h6
    match hk:o+j with
    | 0=>rw[hk]at h6;simp at h6
    | 1=>rw[hk]at h6;simp at h6
    | n+2=>rw[hk]at h6;simp at h6
   exact(yC hne).trans h6
set_option maxRecDepth 100000
set_option maxHeartbeats 20000000
open Go.Lib (hid)
theorem sF {W W':World}{g:Nat}{o:Obj}(h:W.heap[g]? = some o)(hb:Below W.heap.size W W'):W'.heap[g]? = some o:=by
 rw[hb.block g (Array.getElem?_eq_some_iff.1 h).1];exact h
theorem heap_set {W:World}{g i:Nat}{b b':Bool}{q:Option Addr}{l c:Nat}{T:TypeId}{fz:Nat × Nat}(h:W.heap[g]? = some (.cells #[.bool b,.slice q l c] T fz))(hi:i=0):(W.setCell ⟨g,i,none⟩ (.bool b')).heap[g]? = some (.cells #[.bool b',.slice q l c] T fz):=by
 subst hi;simp only[World.setCell,Array.getElem?_modify,h];simp
theorem yh (ba bb ob r:Bool)(p1:Option Addr)(l1 c1:Nat)(p2:Option Addr)(l2 c2:Nat)(m n L:Nat)(w:World)
 (hO:∀ W,Below w.heap.size w W→Calls Tryz.prog 90 #[.agg #[.bool bb,.slice p2 l2 c2]] W fun e w'=>∃ p c,e=.returned (.agg #[.bool ob,.slice p l2 c])∧Rd .u32 w' (.slice p l2 c) (ae m)∧Below W.heap.size W w')
 (hQ:∀ W p c,Below w.heap.size w W→Rd .u32 W (.slice p l2 c) (ae m)→Calls Tryz.prog 86 #[.agg #[.bool ba,.slice p1 l1 c1],.agg #[.bool ob,.slice p l2 c]] W fun e w'=>∃ p' c',e=.returned (.agg #[.bool r,.slice p' L c'])∧Rd .u32 w' (.slice p' L c') (ae n)∧Below W.heap.size W w') :
 Calls Tryz.prog 134 #[.agg #[.bool ba,.slice p1 l1 c1],.agg #[.bool bb,.slice p2 l2 c2]] w fun e w'=>∃ v,e=.returned (.agg #[.bool r,v])∧Rd .u32 w' v (ae n)∧Below w.heap.size w w':=by
 have HO:=hid hO;have HQ:=hid hQ;have HW:=hid (((((Below.refl w.heap.size w).alloc (Nat.le_refl _) (.cells #[.bool ba,.slice p1 l1 c1] 51)).alloc (by simp) (.cells #[.bool bb,.slice p2 l2 c2] 51)).alloc (by simp;omega) (.cells #[.bool false,.slice none 0 0] 51)))
 have AH:=hid (show(((w.alloc (.cells #[.bool ba,.slice p1 l1 c1] 51)).alloc (.cells #[.bool bb,.slice p2 l2 c2] 51)).alloc (.cells #[.bool false,.slice none 0 0] 51)).heap[w.heap.size+1+1]? = some (.cells #[.bool false,.slice none 0 0] 51 (0,0)) by
  rw[show w.heap.size+1+1=((w.alloc (.cells #[.bool ba,.slice p1 l1 c1] 51)).alloc (.cells #[.bool bb,.slice p2 l2 c2] 51)).heap.size by simp];exact heap_alloc_new _ _)
 have A00:=hid (show(((w.alloc (.cells #[.bool ba,.slice p1 l1 c1] 51)).alloc (.cells #[.bool bb,.slice p2 l2 c2] 51)).alloc (.cells #[.bool false,.slice none 0 0] 51)).cell? ⟨w.heap.size,0,none⟩=some (.bool ba) by rw[eG (by simp;omega),eG (by simp),oo rfl];rfl);have A01:=hid (show(((w.alloc (.cells #[.bool ba,.slice p1 l1 c1] 51)).alloc (.cells #[.bool bb,.slice p2 l2 c2] 51)).alloc (.cells #[.bool false,.slice none 0 0] 51)).cell? ⟨w.heap.size,1,none⟩=some (.slice p1 l1 c1) by rw[eG (by simp;omega),eG (by simp),oo rfl];rfl);have A10:=hid (show(((w.alloc (.cells #[.bool ba,.slice p1 l1 c1] 51)).alloc (.cells #[.bool bb,.slice p2 l2 c2] 51)).alloc (.cells #[.bool false,.slice none 0 0] 51)).cell? ⟨w.heap.size+1,0,none⟩=some (.bool bb) by rw[eG (by simp),oo (by simp)];rfl);have A11:=hid (show(((w.alloc (.cells #[.bool ba,.slice p1 l1 c1] 51)).alloc (.cells #[.bool bb,.slice p2 l2 c2] 51)).alloc (.cells #[.bool false,.slice none 0 0] 51)).cell? ⟨w.heap.size+1,1,none⟩=some (.slice p2 l2 c2) by rw[eG (by simp),oo (by simp)];rfl);have A20:=hid (show(((w.alloc (.cells #[.bool ba,.slice p1 l1 c1] 51)).alloc (.cells #[.bool bb,.slice p2 l2 c2] 51)).alloc (.cells #[.bool false,.slice none 0 0] 51)).cell? ⟨w.heap.size+1+1,0,none⟩=some (.bool false) by rw[oo (by simp)];rfl);have A21:=hid (show(((w.alloc (.cells #[.bool ba,.slice p1 l1 c1] 51)).alloc (.cells #[.bool bb,.slice p2 l2 c2] 51)).alloc (.cells #[.bool false,.slice none 0 0] 51)).cell? ⟨w.heap.size+1+1,1,none⟩=some (.slice none 0 0) by rw[oo (by simp)];rfl);have F0:=hid (show(((w.alloc (.cells #[.bool ba,.slice p1 l1 c1] 51)).alloc (.cells #[.bool bb,.slice p2 l2 c2] 51)).alloc (.cells #[.bool false,.slice none 0 0] 51)).frozen? ⟨w.heap.size+1+1,0,none⟩=false by rw[z2O (by simp)]);have F1:=hid (show(((w.alloc (.cells #[.bool ba,.slice p1 l1 c1] 51)).alloc (.cells #[.bool bb,.slice p2 l2 c2] 51)).alloc (.cells #[.bool false,.slice none 0 0] 51)).frozen? ⟨w.heap.size+1+1,1,none⟩=false by rw[z2O (by simp)]);clear hO hQ;go_enter func134,ntmps134
 go_wp2
 go_region_held3 (fun w'=>w'.cell? ⟨w.heap.size,0,none⟩=some (.bool ba)∧w'.cell? ⟨w.heap.size,1,none⟩=some (.slice p1 l1 c1)∧w'.cell? ⟨w.heap.size+1,0,none⟩=some (.bool bb)∧w'.cell? ⟨w.heap.size+1,1,none⟩=some (.slice p2 l2 c2)) (first|((try go_split_ands);refine⟨?_,?_,?_,?_⟩<;>(first|(with_reducible assumption)|((repeat (first|rw[mQ]|rw[eG (by first|assumption|omega|(simp;done)|(simp;omega))]|rw[yC (by omega)]));first|(with_reducible assumption)|(simp;done))))|(go_keep;done))
  (first|(go_at_call 90;refine(HO.out _ ?bd).mono ?_;(case bd=>first|exact HW.out|exact HW.out.drew);rintro e w1 ⟨po,co,rfl,ro,hb1⟩;obtain⟨hc1,hf1⟩:=eU hb1;have hs1:=hb1.size;(try simp at hs1);have q10:w.heap.size<w1.heap.size:=(by omega);have q11:w.heap.size+1<w1.heap.size:=(by omega);have q12:w.heap.size+1+1<w1.heap.size:=(by omega);have s100:w1.cell? ⟨w.heap.size,0,none⟩=some (.bool ba):=(by rw[hc1 _ _ (by first|assumption|omega|(simp;done)|(simp;omega))];first|(with_reducible assumption)|exact A00.out);have s101:w1.cell? ⟨w.heap.size,1,none⟩=some (.slice p1 l1 c1):=(by rw[hc1 _ _ (by first|assumption|omega|(simp;done)|(simp;omega))];first|(with_reducible assumption)|exact A01.out);have s110:w1.cell? ⟨w.heap.size+1,0,none⟩=some (.bool bb):=(by rw[hc1 _ _ (by first|assumption|omega|(simp;done)|(simp;omega))];first|(with_reducible assumption)|exact A10.out);have s111:w1.cell? ⟨w.heap.size+1,1,none⟩=some (.slice p2 l2 c2):=(by rw[hc1 _ _ (by first|assumption|omega|(simp;done)|(simp;omega))];first|(with_reducible assumption)|exact A11.out);have s120:w1.cell? ⟨w.heap.size+1+1,0,none⟩=some (.bool false):=(by rw[hc1 _ _ (by first|assumption|omega|(simp;done)|(simp;omega))];first|(with_reducible assumption)|exact A20.out);have s121:w1.cell? ⟨w.heap.size+1+1,1,none⟩=some (.slice none 0 0):=(by rw[hc1 _ _ (by first|assumption|omega|(simp;done)|(simp;omega))];first|(with_reducible assumption)|exact A21.out);have f10:w1.frozen? ⟨w.heap.size+1+1,0,none⟩=false:=(by rw[hf1 _ _ (by first|assumption|omega|(simp;done)|(simp;omega))];first|(with_reducible assumption)|exact F0.out);have f11:w1.frozen? ⟨w.heap.size+1+1,1,none⟩=false:=(by rw[hf1 _ _ (by first|assumption|omega|(simp;done)|(simp;omega))];first|(with_reducible assumption)|exact F1.out);have HB1:=hid (show Below w.heap.size w w1 from Below.trans HW.out (by first|exact hb1.mono (by first|omega|(simp;omega)|simp)|exact Below.trans (Below.drew (Below.refl _ _)) (hb1.mono (by first|omega|(simp;omega)|simp))));have RO:=hid ro;have hg1:=hid (show w1.heap[w.heap.size+1+1]? = some (.cells #[.bool false,.slice none 0 0] 51 (0,0)) from(by refine sF ?_ hb1;exact AH.out)))|(go_at_call 86;refine(HQ.out w1 po co HB1.out RO.out).mono ?_;rintro e w2 ⟨pv,cv,rfl,rv,hb2⟩;obtain⟨hc2,hf2⟩:=eU hb2;have hs2:=hb2.size;(try simp at hs2);have q20:w.heap.size<w2.heap.size:=(by omega);have q21:w.heap.size+1<w2.heap.size:=(by omega);have q22:w.heap.size+1+1<w2.heap.size:=(by omega);have s200:w2.cell? ⟨w.heap.size,0,none⟩=some (.bool ba):=(by rw[hc2 _ _ (by first|assumption|omega|(simp;done)|(simp;omega))];first|(with_reducible assumption)|exact A00.out);have s201:w2.cell? ⟨w.heap.size,1,none⟩=some (.slice p1 l1 c1):=(by rw[hc2 _ _ (by first|assumption|omega|(simp;done)|(simp;omega))];first|(with_reducible assumption)|exact A01.out);have s210:w2.cell? ⟨w.heap.size+1,0,none⟩=some (.bool bb):=(by rw[hc2 _ _ (by first|assumption|omega|(simp;done)|(simp;omega))];first|(with_reducible assumption)|exact A10.out);have s211:w2.cell? ⟨w.heap.size+1,1,none⟩=some (.slice p2 l2 c2):=(by rw[hc2 _ _ (by first|assumption|omega|(simp;done)|(simp;omega))];first|(with_reducible assumption)|exact A11.out);have s220:w2.cell? ⟨w.heap.size+1+1,0,none⟩=some (.bool false):=(by rw[hc2 _ _ (by first|assumption|omega|(simp;done)|(simp;omega))];first|(with_reducible assumption)|exact A20.out);have s221:w2.cell? ⟨w.heap.size+1+1,1,none⟩=some (.slice none 0 0):=(by rw[hc2 _ _ (by first|assumption|omega|(simp;done)|(simp;omega))];first|(with_reducible assumption)|exact A21.out);have f20:w2.frozen? ⟨w.heap.size+1+1,0,none⟩=false:=(by rw[hf2 _ _ (by first|assumption|omega|(simp;done)|(simp;omega))];first|(with_reducible assumption)|exact F0.out);have f21:w2.frozen? ⟨w.heap.size+1+1,1,none⟩=false:=(by rw[hf2 _ _ (by first|assumption|omega|(simp;done)|(simp;omega))];first|(with_reducible assumption)|exact F1.out);have hg2:=hid (sF hg1.out hb2))|fail)
 all_goals
  go_wp2;have HB:Below w.heap.size w w2:=HB1.out.trans (hb2.mono HB1.out.size);refine bodyPost_ret (v:=.agg #[.bool r,.slice pv L cv]) (by simp[results,results134,go_sem,s220,s221]) rfl ⟨_,rfl,?_,?_⟩
  · exact vS (heap_set hg2.out rfl) (vS hg2.out rv 0 _) 1 _
  · exact(HB.setCell (p:=⟨w.heap.size+1+1,0,none⟩) (by show w.heap.size≤w.heap.size+1+1;omega) _).setCell (p:=⟨w.heap.size+1+1,1,none⟩) (by show w.heap.size≤w.heap.size+1+1;omega) _
theorem z4a (u1 u2:Value)(x y:Int)(hx:(ae x.natAbs).length≤50000)(hy:(ae y.natAbs).length≤50000)(w:World)(h1:Rz w u1 x)(h2:Rz w u2 y) :
 Calls Tryz.prog 134 #[u1,u2] w fun e w'=>∃ u,e=.returned u∧Rz w' u (x-y)∧Below w.heap.size w w':=by
 obtain⟨p1,c1,rfl,r1⟩:=iM h1;obtain⟨p2,c2,rfl,r2⟩:=iM h2;refine(yh (decide (x<0)) (decide (y<0)) (decide (-y<0)) (decide (x-y<0)) p1 _ c1 p2 _ c2 (-y).natAbs (x-y).natAbs (ae (x-y).natAbs).length w ?_ ?_).mono ?_
 · intro W hW
   have h:=qV _ y (by omega) W (Rz.below ⟨_,rfl,r2⟩ hW);exact pO rfl (by rw[Int.natAbs_neg]) h
 · intro W p c hW hr
   have h:=z3Z (.agg #[.bool (decide (x<0)),.slice p1 (ae x.natAbs).length c1]) (.agg #[.bool (decide (-y<0)),.slice p (ae y.natAbs).length c]) x (-y) hx (by rw[Int.natAbs_neg];exact hy) W (Rz.below ⟨_,rfl,r1⟩ hW) ⟨_,rfl,hr⟩;rw[← Int.sub_eq_add_neg]at h;exact pO rfl rfl h
 · rintro e w' ⟨v,e1,e2,e3⟩
   exact⟨_,e1,⟨_,rfl,e2⟩,e3⟩
end Go.Proofs.YtlgkolkcokaefaaGreatDoor
set_option maxRecDepth 100000
set_option maxHeartbeats 20000000
namespace Go.Proofs.YtlgkolkcokaefaaGreatDoor
open Go.RowKit Go.Gb
theorem z2H (ba bb r:Bool)(p1:Option Addr)(l1 c1:Nat)(p2:Option Addr)(l2 c2:Nat)(L:Nat)(s:Int)(w:World)
 (hs:s=if r=true then -1 else if 0<L then 1 else 0)
 (hM:∀ W,Below w.heap.size w W→Calls Tryz.prog 134 #[.agg #[.bool ba,.slice p1 l1 c1],.agg #[.bool bb,.slice p2 l2 c2]] W fun e w'=>∃ p c,e=.returned (.agg #[.bool r,.slice p L c])∧Below W.heap.size W w') :
 CR 118 #[.agg #[.bool ba,.slice p1 l1 c1],.agg #[.bool bb,.slice p2 l2 c2]] w (.int .i64 s):=by
 have HM:=Lib.hid hM;have HS:=Lib.hid (fun W p c=>nT r p L c s hs W);have HW:=Lib.hid (((Below.refl w.heap.size w).alloc (Nat.le_refl _) (.cells #[.bool ba,.slice p1 l1 c1] 51)).alloc (by simp) (.cells #[.bool bb,.slice p2 l2 c2] 51));clear hM hs;go_enter func118,ntmps118
 go_wp2_with fail
 refine(HM.out _ HW.out).mono ?_;rintro e w1 ⟨p,c,rfl,hb1⟩;have HB1:=Lib.hid (HW.out.trans (hb1.mono HW.out.size));clear hb1;go_wp2_with fail
 refine(HS.out w1 p c).mono ?_;rintro e w2 ⟨rfl,hb⟩;have HB2:=Lib.hid (HB1.out.trans (hb.mono HB1.out.size));clear hb;go_wp2;go_ret
 exact⟨rfl,HB2.out⟩
theorem zCmp (u1 u2:Value)(x y:Int)(hx:(ae x.natAbs).length≤50000)(hy:(ae y.natAbs).length≤50000)(w:World)(h1:Rz w u1 x)(h2:Rz w u2 y) :
 CR 118 #[u1,u2] w (.int .i64 (cmpZ x y)):=by
 obtain⟨p1,c1,rfl,r1⟩:=iM h1;obtain⟨p2,c2,rfl,r2⟩:=iM h2;refine z2H _ _ (decide (x-y<0)) p1 _ c1 p2 _ c2 (ae (x-y).natAbs).length (cmpZ x y) w ?_ ?_
 · have hl:=qw (x-y).natAbs
   rcases Int.lt_trichotomy x y with h|h|h
   · rw[nM h,if_pos (decide_eq_true (by omega))]
   · subst h
     rw[qH,Int.sub_self];simp[aP]
   · rw[nN h,if_neg (by rw[decide_eq_false (by omega)];simp),if_pos]
     exact List.length_pos_iff.2 (by rw[bJ (by omega)];simp)
 · intro W hW
   exact(pO rfl rfl (z4a _ _ x y hx hy W (Rz.below ⟨_,rfl,r1⟩ hW) (Rz.below ⟨_,rfl,r2⟩ hW))).mono fun e w' ⟨p,c,e1,_,e3⟩=>⟨p,c,e1,e3⟩
theorem sTo (z:Int)(s:ByteArray)(hs:Sz z=s)(hf:aa z≤10000)(hs2:(Sn z.natAbs).size≤100000)(p:Option Addr)(c:Nat)(w:World)(h:RN w (.slice p (aa z) c) z.natAbs) :
 CR 52 #[.agg #[.bool (ai z),.slice p (aa z) c]] w (.string s):=by subst hs;exact zTo _ z hf hs2 w (Rz.mk h)
theorem ug (z s:Int)(hs:z.sign=s)(p:Option Addr)(c:Nat)(w:World)(h:RN w (.slice p (aa z) c) z.natAbs) :
 CR 50 #[.agg #[.bool (ai z),.slice p (aa z) c]] w (.int .i64 s):=by subst hs;exact z3g _ z w (Rz.mk h)
theorem z4k (x y z:Int)(hz:x*y=z)(hx:aa x≤50000)(hy:aa y≤50000)(p1:Option Addr)(c1:Nat)(p2:Option Addr)(c2:Nat)(w:World)(r1:RN w (.slice p1 (aa x) c1) x.natAbs)(r2:RN w (.slice p2 (aa y) c2) y.natAbs) :
 CZ 82 #[.agg #[.bool (ai x),.slice p1 (aa x) c1],.agg #[.bool (ai y),.slice p2 (aa y) c2]] w z:=by subst hz;exact xC (z3X _ _ x y hx hy w (Rz.mk r1) (Rz.mk r2))
theorem z4p (x y z:Int)(hz:x+y=z)(hx:aa x≤50000)(hy:aa y≤50000)(p1:Option Addr)(c1:Nat)(p2:Option Addr)(c2:Nat)(w:World)(r1:RN w (.slice p1 (aa x) c1) x.natAbs)(r2:RN w (.slice p2 (aa y) c2) y.natAbs) :
 CZ 86 #[.agg #[.bool (ai x),.slice p1 (aa x) c1],.agg #[.bool (ai y),.slice p2 (aa y) c2]] w z:=by subst hz;exact xC (z3Z _ _ x y hx hy w (Rz.mk r1) (Rz.mk r2))
theorem zh (x z:Int)(hz : -x=z)(hx:aa x≤1000000)(p1:Option Addr)(c1:Nat)(w:World)(r1:RN w (.slice p1 (aa x) c1) x.natAbs) :
 CZ 90 #[.agg #[.bool (ai x),.slice p1 (aa x) c1]] w z:=by subst hz;exact xC (qV _ x hx w (Rz.mk r1))
end Go.Proofs.YtlgkolkcokaefaaGreatDoor
open Go.Lib (hid)
namespace Go.Proofs.YtlgkolkcokaefaaGreatDoor
open Go.RowKit Go.Gb
theorem z4l (k:Int)(n:Nat)(hk:(n:Int)=k)(h0:0≤k)(h1:k≤1000000)(w:World) :
 CZ 68 #[.int .i64 k] w k:=by
 have hl:ag n≤1000000:=Nat.le_trans (jd (show n≤1000000 by omega)) (by decide +kernel);have C1:=hid (fun W=>qK k n hk (by omega) W);have C2:=hid (fun v W h=>mg false v n k (by rw[if_neg (by simp)];exact hk.symm) hl W h);have d0:decide (k<0)=false:=decide_eq_false (by omega);have e0:¬ k<0:=by omega
 clear hl hk;go_enter func68,ntmps68
 go_upto_region 1 with fail
 refine ak w [(#[.bool false,.slice none 0 0],51)] rfl ?_;rintro W0 ⟨k1,hb⟩;have HB0:=hid (show Below w.heap.size w W0 from hb);have K1:=hid k1;clear k1 hb;go_wp2_with fail
 with_reducible refine(C1.out _).mono ?_
 rintro e W1 ⟨p_1,c_1,rfl,u00,hb⟩;have K1:=hid (K1.out.below hb);have HB1:=hbt HB0 hb;have RN1:=hid u00;clear hb u00;go_wp2_with fail
 with_reducible refine(C2.out _ _ RN1.out).mono ?_
 rintro e W2 ⟨p_2,c_2,rfl,u05,hb⟩;have K1:=hid (K1.out.below hb);have HB2:=hbt HB1 hb;have RK:=hid u05;clear hb u05;obtain ⟨dK10,dK11⟩:=aI K1.out rfl rfl;obtain ⟨fK10,fK11⟩:=dU K1.out;go_wp2;exact bodyPost_ret (v:=.agg #[.bool (ai k),.slice p_2 (aa k) c_2]) (by simp[results,results68,go_sem,dK10,dK11]) rfl ⟨_,_,rfl,(aZ [.bool (ai k),.slice p_2 (aa k) c_2] RK.out K1.out (by simp[bO]) (by simp[bf])),(av (l:=[.bool (ai k),.slice p_2 (aa k) c_2]) (i:=0) (by omega) HB2.out)⟩
open Go.Lib (hid)
theorem wS (v1 v2:Value)(a b q r:Nat)(hq:a / b=q)(hr:a%b=r)(hb:b≠0)(hl:ag a≤50000)(w:World)(h1:RN w v1 a)(h2:RN w v2 b) :
 Calls Tryz.prog 72 #[v1,v2] w fun e w'=>∃ p c p' c',e=.returned (.tuple #[.slice p (ag q) c,.slice p' (ag r) c'])∧RN w' (.slice p (ag q) c) q∧RN w' (.slice p' (ag r) c') r∧Below w.heap.size w w':=by
 subst hq hr;exact z5n v1 v2 a b hb hl w h1 h2
theorem zo {w:World}{p:Option Addr}{n c g:Nat}(h:RN w (.slice p n c) g)(hg:(ae g).length=1):∃ b o,p=some ⟨b,o,none⟩∧n=1∧w.cell? ⟨b,o,none⟩=some (.int .u32 (g:Int)):=by
 rcases h with⟨e,h⟩|⟨b,o,c',e,h2,h3,h4,h5⟩
 · rw[h]at hg;cases hg
 · injection e with e1 e2 e3
   refine⟨b,o,e1,by omega,?_⟩;have h6:=h5 0 (by omega);have hv:=aB g
   have hd:ae g=[(ae g).getD 0 0]:=by
    match hk:ae g,hg with
    | [x],_=>rfl
   rw[hd]at hv;have e0:(ae g).getD 0 0=g:=by simpa [aj] using hv
   rw[e0]at h6;exact h6
theorem xL (z:Int)(d:Nat)(hz:aa z≤50000)(hd:ag d≤50000)(p1:Option Addr)(c1:Nat)(s1:Option Addr)(d1:Nat)(hg:Nat.gcd z.natAbs d=1)(w:World)(r1:RN w (.slice p1 (aa z) c1) z.natAbs)(t1:RN w (.slice s1 (ag d) d1) d) :
 Calls Tryz.prog 81 #[.agg #[.bool (ai z),.slice p1 (aa z) c1],.slice s1 (ag d) d1] w fun e w'=>∃ p c s e1,e=.returned (.agg #[.bool (ai z),.slice p (aa z) c,.slice s (ag d) e1])∧RN w' (.slice p (aa z) c) z.natAbs∧RN w' (.slice s (ag d) e1) d∧Below w.heap.size w w':=by
 have C1:=hid (show ∀ v1 v2 W,RN W v1 z.natAbs→RN W v2 d→Calls Tryz.prog 51 #[v1,v2] W fun e w'=>∃ b o c,e=.returned (.slice (some ⟨b,o,none⟩) 1 c)∧w'.cell? ⟨b,o,none⟩=some (.int .u32 1)∧Below W.heap.size W w' from fun v1 v2 W h1 h2=>by
  refine(nQ v1 v2 z.natAbs d 1 hg hz hd W h1 h2).mono ?_;rintro e w' ⟨p,c,rfl,hr,hb⟩;obtain⟨b,o,rfl,_,h⟩:=zo hr qm;rw[qm]
  exact⟨b,o,c,rfl,h,hb⟩)
 clear hg hz hd;have R1:=hid r1;have T1:=hid t1;clear r1 t1;go_enter func81,ntmps81
 go_upto_region 1 with fail
 refine ak w [(#[.bool (ai z),.slice p1 (aa z) c1],51),(#[.bool false,.slice none 0 0,.slice none 0 0],53)] rfl ?_;rintro W0 ⟨k1,k2,hb⟩;have HB0:=hid (show Below w.heap.size w W0 from hb);obtain ⟨R1,T1,K1,K2⟩:=aG (R1.out.below HB0.out) (T1.out.below HB0.out) k1 k2;clear k1 k2 hb;have dK11:=K1.out.cell (i:=1) rfl;go_wp2_with fail
 with_reducible refine(C1.out _ _ _ R1.out T1.out).mono ?_
 rintro e W1 ⟨b_1,o_1,c_1,rfl,u00,hb⟩;clear dK11;obtain ⟨K1,K2,R1,T1⟩:=aG (K1.out.below hb) (K2.out.below hb) (R1.out.below hb) (T1.out.below hb);have HB1:=hbt HB0 hb;have XC:=hid u00;clear hb u00;have dxc:=XC.out;obtain ⟨dK10,dK11⟩:=aI K1.out rfl rfl;obtain ⟨dK20,dK21,dK22⟩:=ax K2.out rfl rfl rfl;obtain ⟨fK20,fK21,fK22⟩:=aR K2.out;go_wp2;exact bodyPost_ret (v:=.agg #[.bool (ai z),.slice p1 (aa z) c1,.slice s1 (ag d) d1]) (by simp[results,results81,go_sem,dK20,dK21,dK22]) rfl ⟨_,_,_,_,rfl,(aZ [.bool (ai z),.slice p1 (aa z) c1,.slice s1 (ag d) d1] R1.out K2.out (by simp[bO]) (by simp[bf])),(aZ [.bool (ai z),.slice p1 (aa z) c1,.slice s1 (ag d) d1] T1.out K2.out (by simp[bO]) (by simp[bf])),(av (l:=[.bool (ai z),.slice p1 (aa z) c1,.slice s1 (ag d) d1]) (i:=0) (by omega) HB1.out)⟩
theorem ul (z:Int)(d:Nat)(hz:aa z≤50000)(hd:ag d≤50000)(p1:Option Addr)(c1:Nat)(s1:Option Addr)(d1:Nat)(g a a1 b b1:Nat)(y:Int)(hg:Nat.gcd z.natAbs d=g)(g0:g≠0)(g1:g≠1)(gl:ag g=1)(ha:z.natAbs / g=a)(ha1:z.natAbs%g=a1)(hb:d / g=b)(hb1:d%g=b1)(hy:y=if ai z then -(a:Int) else (a:Int))(w:World)(r1:RN w (.slice p1 (aa z) c1) z.natAbs)(t1:RN w (.slice s1 (ag d) d1) d) :
 Calls Tryz.prog 81 #[.agg #[.bool (ai z),.slice p1 (aa z) c1],.slice s1 (ag d) d1] w fun e w'=>∃ p c s e1,e=.returned (.agg #[.bool (ai y),.slice p (aa y) c,.slice s (ag b) e1])∧RN w' (.slice p (aa y) c) y.natAbs∧RN w' (.slice s (ag b) e1) b∧Below w.heap.size w w':=by
 have C1:=hid (show ∀ v1 v2 W,RN W v1 z.natAbs→RN W v2 d→Calls Tryz.prog 51 #[v1,v2] W fun e w'=>∃ b o c,e=.returned (.slice (some ⟨b,o,none⟩) 1 c)∧w'.cell? ⟨b,o,none⟩=some (.int .u32 (g:Int))∧RN w' (.slice (some ⟨b,o,none⟩) 1 c) g∧Below W.heap.size W w' from fun v1 v2 W h1 h2=>by
  refine(nQ v1 v2 z.natAbs d g hg hz hd W h1 h2).mono ?_;rintro e w' ⟨p,c,rfl,hr,hb⟩;obtain⟨b,o,rfl,_,h⟩:=zo hr gl;rw[gl]at hr ⊢
  exact⟨b,o,c,rfl,h,hr,hb⟩)
 have C2:=hid (fun v1 v2 W h1 h2=>wS v1 v2 z.natAbs g a a1 ha ha1 g0 hz W h1 h2);have C3:=hid (fun v1 v2 W h1 h2=>wS v1 v2 d g b b1 hb hb1 g0 hd W h1 h2);have C4:=hid (fun v W h=>mg (ai z) v a y hy (by rw[← ha];exact Nat.le_trans (jd (Nat.div_le_self _ _)) (Nat.le_trans hz (by decide))) W h);have g1':((g:Int)==1)=false:=by rw[beq_eq_false_iff_ne];omega
 have g2':¬ (g:Int)=1:=by omega
 have g3':¬ g=1:=g1;clear gl g1 hg hz hd g0 ha ha1 hb hb1 hy;have R1:=hid r1;have T1:=hid t1;clear r1 t1;go_enter func81,ntmps81
 go_upto_region 1 with fail
 refine ak w [(#[.bool (ai z),.slice p1 (aa z) c1],51),(#[.bool false,.slice none 0 0,.slice none 0 0],53)] rfl ?_;rintro W0 ⟨k1,k2,hb⟩;have HB0:=hid (show Below w.heap.size w W0 from hb);obtain ⟨R1,T1,K1,K2⟩:=aG (R1.out.below HB0.out) (T1.out.below HB0.out) k1 k2;clear k1 k2 hb;have dK11:=K1.out.cell (i:=1) rfl;go_wp2_with fail
 with_reducible refine(C1.out _ _ _ R1.out T1.out).mono ?_
 rintro e W1 ⟨b_1,o_1,c_1,rfl,u00,u0d,hb⟩;clear dK11;obtain ⟨K1,K2,R1,T1⟩:=aG (K1.out.below hb) (K2.out.below hb) (R1.out.below hb) (T1.out.below hb);have HB1:=hbt HB0 hb;have XC:=hid u00;have RG:=hid u0d;clear hb u00 u0d;have dxc:=XC.out;have dK11:=K1.out.cell (i:=1) rfl;go_wp2_with fail
 with_reducible refine(C2.out _ _ _ R1.out RG.out).mono ?_
 rintro e W2 ⟨u0h,u0i,u0j,u0k,rfl,u05,u06,hb⟩;clear dK11;obtain ⟨K1,K2,T1,RG⟩:=aG (K1.out.below hb) (K2.out.below hb) (T1.out.below hb) (RG.out.below hb);have HB2:=hbt HB1 hb;have RA:=hid u05;have RA1:=hid u06;clear hb u05 u06;go_wp2_with fail
 with_reducible refine(C3.out _ _ _ T1.out RG.out).mono ?_
 rintro e W3 ⟨u01,u02,u0l,u0m,rfl,u07,u08,hb⟩;obtain ⟨K1,K2,RA⟩:=ah (K1.out.below hb) (K2.out.below hb) (RA.out.below hb);have HB3:=hbt HB2 hb;have RB:=hid u07;have RB1:=hid u08;clear hb u07 u08;have dK10:=K1.out.cell (i:=0) rfl;go_wp2_with fail
 with_reducible refine(C4.out _ _ RA.out).mono ?_
 rintro e W4 ⟨p_4,c_4,rfl,u09,hb⟩;clear dK10;have K2:=hid (K2.out.below hb);have RB:=hid (RB.out.below hb);have HB4:=hbt HB3 hb;have RY:=hid u09;clear hb u09;obtain ⟨dK20,dK21,dK22⟩:=ax K2.out rfl rfl rfl;obtain ⟨fK20,fK21,fK22⟩:=aR K2.out;go_wp2;exact bodyPost_ret (v:=.agg #[.bool (ai y),.slice p_4 (aa y) c_4,.slice u01 (ag b) u02]) (by simp[results,results81,go_sem,dK20,dK21,dK22]) rfl ⟨_,_,_,_,rfl,(aZ [.bool (ai y),.slice p_4 (aa y) c_4,.slice u01 (ag b) u02] RY.out K2.out (by simp[bO]) (by simp[bf])),(aZ [.bool (ai y),.slice p_4 (aa y) c_4,.slice u01 (ag b) u02] RB.out K2.out (by simp[bO]) (by simp[bf])),(av (l:=[.bool (ai y),.slice p_4 (aa y) c_4,.slice u01 (ag b) u02]) (i:=0) (by omega) HB4.out)⟩
theorem um (z:Int)(d:Nat)(hz:aa z≤50000)(hd:ag d≤50000)(p1:Option Addr)(c1:Nat)(s1:Option Addr)(d1:Nat)(g a a1 b b1:Nat)(y:Int)(hg:Nat.gcd z.natAbs d=g)(g0:g≠0)(gl:ag g≠1)(ha:z.natAbs / g=a)(ha1:z.natAbs%g=a1)(hb:d / g=b)(hb1:d%g=b1)(hy:y=if ai z then -(a:Int) else (a:Int))(w:World)(r1:RN w (.slice p1 (aa z) c1) z.natAbs)(t1:RN w (.slice s1 (ag d) d1) d) :
 Calls Tryz.prog 81 #[.agg #[.bool (ai z),.slice p1 (aa z) c1],.slice s1 (ag d) d1] w fun e w'=>∃ p c s e1,e=.returned (.agg #[.bool (ai y),.slice p (aa y) c,.slice s (ag b) e1])∧RN w' (.slice p (aa y) c) y.natAbs∧RN w' (.slice s (ag b) e1) b∧Below w.heap.size w w':=by
 have C1:=hid (fun v1 v2 W h1 h2=>nQ v1 v2 z.natAbs d g hg hz hd W h1 h2);have C2:=hid (fun v1 v2 W h1 h2=>wS v1 v2 z.natAbs g a a1 ha ha1 g0 hz W h1 h2);have C3:=hid (fun v1 v2 W h1 h2=>wS v1 v2 d g b b1 hb hb1 g0 hd W h1 h2);have C4:=hid (fun v W h=>mg (ai z) v a y hy (by rw[← ha];exact Nat.le_trans (jd (Nat.div_le_self _ _)) (Nat.le_trans hz (by decide))) W h);have g1':((ag g:Int)==1)=false:=by rw[beq_eq_false_iff_ne];omega
 have g2':¬ (ag g:Int)=1:=by omega
 have g3':¬ ag g=1:=gl;clear gl hg hz hd g0 ha ha1 hb hb1 hy;have R1:=hid r1;have T1:=hid t1;clear r1 t1;go_enter func81,ntmps81
 go_upto_region 1 with fail
 refine ak w [(#[.bool (ai z),.slice p1 (aa z) c1],51),(#[.bool false,.slice none 0 0,.slice none 0 0],53)] rfl ?_;rintro W0 ⟨k1,k2,hb⟩;have HB0:=hid (show Below w.heap.size w W0 from hb);obtain ⟨R1,T1,K1,K2⟩:=aG (R1.out.below HB0.out) (T1.out.below HB0.out) k1 k2;clear k1 k2 hb;have dK11:=K1.out.cell (i:=1) rfl;go_wp2_with fail
 with_reducible refine(C1.out _ _ _ R1.out T1.out).mono ?_
 rintro e W1 ⟨p_1,c_1,rfl,u00,hb⟩;clear dK11;obtain ⟨K1,K2,R1,T1⟩:=aG (K1.out.below hb) (K2.out.below hb) (R1.out.below hb) (T1.out.below hb);have HB1:=hbt HB0 hb;have RG:=hid u00;clear hb u00;have dK11:=K1.out.cell (i:=1) rfl;go_wp2_with fail
 with_reducible refine(C2.out _ _ _ R1.out RG.out).mono ?_
 rintro e W2 ⟨u0h,u0i,u0j,u0k,rfl,u05,u06,hb⟩;clear dK11;obtain ⟨K1,K2,T1,RG⟩:=aG (K1.out.below hb) (K2.out.below hb) (T1.out.below hb) (RG.out.below hb);have HB2:=hbt HB1 hb;have RA:=hid u05;have RA1:=hid u06;clear hb u05 u06;go_wp2_with fail
 with_reducible refine(C3.out _ _ _ T1.out RG.out).mono ?_
 rintro e W3 ⟨u01,u02,u0l,u0m,rfl,u07,u08,hb⟩;obtain ⟨K1,K2,RA⟩:=ah (K1.out.below hb) (K2.out.below hb) (RA.out.below hb);have HB3:=hbt HB2 hb;have RB:=hid u07;have RB1:=hid u08;clear hb u07 u08;have dK10:=K1.out.cell (i:=0) rfl;go_wp2_with fail
 with_reducible refine(C4.out _ _ RA.out).mono ?_
 rintro e W4 ⟨p_4,c_4,rfl,u09,hb⟩;clear dK10;have K2:=hid (K2.out.below hb);have RB:=hid (RB.out.below hb);have HB4:=hbt HB3 hb;have RY:=hid u09;clear hb u09;obtain ⟨dK20,dK21,dK22⟩:=ax K2.out rfl rfl rfl;obtain ⟨fK20,fK21,fK22⟩:=aR K2.out;go_wp2;exact bodyPost_ret (v:=.agg #[.bool (ai y),.slice p_4 (aa y) c_4,.slice u01 (ag b) u02]) (by simp[results,results81,go_sem,dK20,dK21,dK22]) rfl ⟨_,_,_,_,rfl,(aZ [.bool (ai y),.slice p_4 (aa y) c_4,.slice u01 (ag b) u02] RY.out K2.out (by simp[bO]) (by simp[bf])),(aZ [.bool (ai y),.slice p_4 (aa y) c_4,.slice u01 (ag b) u02] RB.out K2.out (by simp[bO]) (by simp[bf])),(av (l:=[.bool (ai y),.slice p_4 (aa y) c_4,.slice u01 (ag b) u02]) (i:=0) (by omega) HB4.out)⟩
structure QS where
 b:Bool
 a:Option Addr
 n:Nat
 c:Nat
 e:Option Addr
 m:Nat
 d:Nat
def FQ (W:World) (q:QS) (x:Rat):Prop:=q.b=ai x.num∧q.n=aa x.num∧q.m=ag x.den∧RN W (.slice q.a q.n q.c) x.num.natAbs∧RN W (.slice q.e q.m q.d) x.den
theorem FQ.below {W W':World}{q:QS}{x:Rat}(h:FQ W q x)(hb:Below W.heap.size W W'):FQ W' q x:=⟨h.1,h.2.1,h.2.2.1,h.2.2.2.1.below hb,h.2.2.2.2.below hb⟩
theorem bX {q:QS}{x:Rat}{g:Nat}{T:TypeId}(l:List Value)(i:Nat){w:World}{cs:Array Value}(h:FQ w q x)(hg:SBk w g cs T)(hn:bO cs=true)(hl:l.all bf=true):FQ (storeAll w g i l) q x:=⟨h.1,h.2.1,h.2.2.1,mr l i h.2.2.2.1 hg hn hl,mr l i h.2.2.2.2 hg hn hl⟩
abbrev QS.v (q:QS):Value:=.agg #[.bool q.b,.slice q.a q.n q.c,.slice q.e q.m q.d]
abbrev Qvv (qa qb qc:QS):Value:=.agg #[.bool qa.b,.slice qa.a qa.n qa.c,.slice qa.e qa.m qa.d,.bool qb.b,.slice qb.a qb.n qb.c,.slice qb.e qb.m qb.d,.bool qc.b,.slice qc.a qc.n qc.c,.slice qc.e qc.m qc.d]
abbrev Qff (qa qb qc qd qe qf qg qh qi:QS):Value:=.agg #[.bool qa.b,.slice qa.a qa.n qa.c,.slice qa.e qa.m qa.d,.bool qb.b,.slice qb.a qb.n qb.c,.slice qb.e qb.m qb.d,.bool qc.b,.slice qc.a qc.n qc.c,.slice qc.e qc.m qc.d,.bool qd.b,.slice qd.a qd.n qd.c,.slice qd.e qd.m qd.d,.bool qe.b,.slice qe.a qe.n qe.c,.slice qe.e qe.m qe.d,.bool qf.b,.slice qf.a qf.n qf.c,.slice qf.e qf.m qf.d,.bool qg.b,.slice qg.a qg.n qg.c,.slice qg.e qg.m qg.d,.bool qh.b,.slice qh.a qh.n qh.c,.slice qh.e qh.m qh.d,.bool qi.b,.slice qi.a qi.n qi.c,.slice qi.e qi.m qi.d]
abbrev RQ (W:World) (x:Rat):Ending→World→Prop:=fun e w'=>∃ q:QS,e=.returned (.agg #[.bool q.b,.slice q.a q.n q.c,.slice q.e q.m q.d])∧FQ w' q x∧Below W.heap.size W w'
abbrev RQb (W:World) (x:Rat) (b:Bool):Ending→World→Prop:=fun e w'=>∃ q:QS,e=.returned (.tuple #[.agg #[.bool q.b,.slice q.a q.n q.c,.slice q.e q.m q.d],.bool b])∧FQ w' q x∧Below W.heap.size W w'
abbrev Rv3 (W:World) (xa xb xc:Rat):Ending→World→Prop:=fun e w'=>∃ qa qb qc:QS,e=.returned (.agg #[.bool qa.b,.slice qa.a qa.n qa.c,.slice qa.e qa.m qa.d,.bool qb.b,.slice qb.a qb.n qb.c,.slice qb.e qb.m qb.d,.bool qc.b,.slice qc.a qc.n qc.c,.slice qc.e qc.m qc.d])∧FQ w' qa xa∧FQ w' qb xb∧FQ w' qc xc∧Below W.heap.size W w'
abbrev RVb (W:World) (xa xb xc:Rat) (b:Bool):Ending→World→Prop:=fun e w'=>∃ qa qb qc:QS,e=.returned (.tuple #[.agg #[.bool qa.b,.slice qa.a qa.n qa.c,.slice qa.e qa.m qa.d,.bool qb.b,.slice qb.a qb.n qb.c,.slice qb.e qb.m qb.d,.bool qc.b,.slice qc.a qc.n qc.c,.slice qc.e qc.m qc.d],.bool b])∧FQ w' qa xa∧FQ w' qb xb∧FQ w' qc xc∧Below W.heap.size W w'
abbrev RQQ (W:World) (xa xb:Rat):Ending→World→Prop:=fun e w'=>∃ qa qb:QS,e=.returned (.tuple #[.agg #[.bool qa.b,.slice qa.a qa.n qa.c,.slice qa.e qa.m qa.d],.agg #[.bool qb.b,.slice qb.a qb.n qb.c,.slice qb.e qb.m qb.d]])∧FQ w' qa xa∧FQ w' qb xb∧Below W.heap.size W w'
abbrev RF (W:World) (xa xb xc xd xe xf xg xh xi:Rat):Ending→World→Prop:=fun e w'=>∃ qa qb qc qd qe qf qg qh qi:QS,e=.returned (.tuple #[.agg #[.bool qa.b,.slice qa.a qa.n qa.c,.slice qa.e qa.m qa.d,.bool qb.b,.slice qb.a qb.n qb.c,.slice qb.e qb.m qb.d,.bool qc.b,.slice qc.a qc.n qc.c,.slice qc.e qc.m qc.d,.bool qd.b,.slice qd.a qd.n qd.c,.slice qd.e qd.m qd.d,.bool qe.b,.slice qe.a qe.n qe.c,.slice qe.e qe.m qe.d,.bool qf.b,.slice qf.a qf.n qf.c,.slice qf.e qf.m qf.d,.bool qg.b,.slice qg.a qg.n qg.c,.slice qg.e qg.m qg.d,.bool qh.b,.slice qh.a qh.n qh.c,.slice qh.e qh.m qh.d,.bool qi.b,.slice qi.a qi.n qi.c,.slice qi.e qi.m qi.d],.int .i64 0])∧FQ w' qa xa∧FQ w' qb xb∧FQ w' qc xc∧FQ w' qd xd∧FQ w' qe xe∧FQ w' qf xf∧FQ w' qg xg∧FQ w' qh xh∧FQ w' qi xi∧Below W.heap.size W w'
abbrev RP (W:World) (v:Value):Ending→World→Prop:=fun e w'=>e=.returned v∧Below W.heap.size W w'
abbrev KQ1 (f:Nat) (x0:Rat) (z:Rat):Prop:=∀ (q0:QS) (W:World),FQ W q0 x0→Calls Tryz.prog f #[.agg #[.bool q0.b,.slice q0.a q0.n q0.c,.slice q0.e q0.m q0.d]] W (RQ W z)
abbrev KQ2 (f:Nat) (x0 x1:Rat) (z:Rat):Prop:=∀ (q0 q1:QS) (W:World),FQ W q0 x0→FQ W q1 x1→Calls Tryz.prog f #[.agg #[.bool q0.b,.slice q0.a q0.n q0.c,.slice q0.e q0.m q0.d],.agg #[.bool q1.b,.slice q1.a q1.n q1.c,.slice q1.e q1.m q1.d]] W (RQ W z)
abbrev KP1 (f:Nat) (x0:Rat) (v:Value):Prop:=∀ (q0:QS) (W:World),FQ W q0 x0→Calls Tryz.prog f #[.agg #[.bool q0.b,.slice q0.a q0.n q0.c,.slice q0.e q0.m q0.d]] W (RP W v)
abbrev KP2 (f:Nat) (x0 x1:Rat) (v:Value):Prop:=∀ (q0 q1:QS) (W:World),FQ W q0 x0→FQ W q1 x1→Calls Tryz.prog f #[.agg #[.bool q0.b,.slice q0.a q0.n q0.c,.slice q0.e q0.m q0.d],.agg #[.bool q1.b,.slice q1.a q1.n q1.c,.slice q1.e q1.m q1.d]] W (RP W v)
abbrev KS (f:Nat) (v0:Value) (z:Rat):Prop:=∀ (W:World),Calls Tryz.prog f #[v0] W (RQ W z)
abbrev KSb (f:Nat) (v0:Value) (z:Rat) (b:Bool):Prop:=∀ (W:World),Calls Tryz.prog f #[v0] W (RQb W z b)
abbrev KVb (f:Nat) (v0:Value) (xa xb xc:Rat) (b:Bool):Prop:=∀ (W:World),Calls Tryz.prog f #[v0] W (RVb W xa xb xc b)
abbrev KQQ (f:Nat) (x0:Rat) (y z:Rat):Prop:=∀ (q0:QS) (W:World),FQ W q0 x0→Calls Tryz.prog f #[.agg #[.bool q0.b,.slice q0.a q0.n q0.c,.slice q0.e q0.m q0.d]] W (RQQ W y z)
abbrev KDot (f:Nat) (x0a x0b x0c x1a x1b x1c:Rat) (z:Rat):Prop:=∀ (q0a q0b q0c q1a q1b q1c:QS) (W:World),FQ W q0a x0a→FQ W q0b x0b→FQ W q0c x0c→FQ W q1a x1a→FQ W q1b x1b→FQ W q1c x1c→Calls Tryz.prog f #[.agg #[.bool q0a.b,.slice q0a.a q0a.n q0a.c,.slice q0a.e q0a.m q0a.d,.bool q0b.b,.slice q0b.a q0b.n q0b.c,.slice q0b.e q0b.m q0b.d,.bool q0c.b,.slice q0c.a q0c.n q0c.c,.slice q0c.e q0c.m q0c.d],.agg #[.bool q1a.b,.slice q1a.a q1a.n q1a.c,.slice q1a.e q1a.m q1a.d,.bool q1b.b,.slice q1b.a q1b.n q1b.c,.slice q1b.e q1b.m q1b.d,.bool q1c.b,.slice q1c.a q1c.n q1c.c,.slice q1c.e q1c.m q1c.d]] W (RQ W z)
abbrev KTi (f:Nat) (x0 x1a x1b x1c:Rat) (xa xb xc:Rat):Prop:=∀ (q0 q1a q1b q1c:QS) (W:World),FQ W q0 x0→FQ W q1a x1a→FQ W q1b x1b→FQ W q1c x1c→Calls Tryz.prog f #[.agg #[.bool q0.b,.slice q0.a q0.n q0.c,.slice q0.e q0.m q0.d],.agg #[.bool q1a.b,.slice q1a.a q1a.n q1a.c,.slice q1a.e q1a.m q1a.d,.bool q1b.b,.slice q1b.a q1b.n q1b.c,.slice q1b.e q1b.m q1b.d,.bool q1c.b,.slice q1c.a q1c.n q1c.c,.slice q1c.e q1c.m q1c.d]] W (Rv3 W xa xb xc)
abbrev KPl (f:Nat) (x0a x0b x0c x1a x1b x1c:Rat) (xa xb xc:Rat):Prop:=∀ (q0a q0b q0c q1a q1b q1c:QS) (W:World),FQ W q0a x0a→FQ W q0b x0b→FQ W q0c x0c→FQ W q1a x1a→FQ W q1b x1b→FQ W q1c x1c→Calls Tryz.prog f #[.agg #[.bool q0a.b,.slice q0a.a q0a.n q0a.c,.slice q0a.e q0a.m q0a.d,.bool q0b.b,.slice q0b.a q0b.n q0b.c,.slice q0b.e q0b.m q0b.d,.bool q0c.b,.slice q0c.a q0c.n q0c.c,.slice q0c.e q0c.m q0c.d],.agg #[.bool q1a.b,.slice q1a.a q1a.n q1a.c,.slice q1a.e q1a.m q1a.d,.bool q1b.b,.slice q1b.a q1b.n q1b.c,.slice q1b.e q1b.m q1b.d,.bool q1c.b,.slice q1c.a q1c.n q1c.c,.slice q1c.e q1c.m q1c.d]] W (Rv3 W xa xb xc)
abbrev KFr (f:Nat) (x0a x0b x0c x0d x0e x0f x0g x0h x0i x1a x1b x1c:Rat) (xa xb xc:Rat):Prop:=∀ (q0a q0b q0c q0d q0e q0f q0g q0h q0i q1a q1b q1c:QS) (W:World),FQ W q0a x0a→FQ W q0b x0b→FQ W q0c x0c→FQ W q0d x0d→FQ W q0e x0e→FQ W q0f x0f→FQ W q0g x0g→FQ W q0h x0h→FQ W q0i x0i→FQ W q1a x1a→FQ W q1b x1b→FQ W q1c x1c→Calls Tryz.prog f #[.agg #[.bool q0a.b,.slice q0a.a q0a.n q0a.c,.slice q0a.e q0a.m q0a.d,.bool q0b.b,.slice q0b.a q0b.n q0b.c,.slice q0b.e q0b.m q0b.d,.bool q0c.b,.slice q0c.a q0c.n q0c.c,.slice q0c.e q0c.m q0c.d,.bool q0d.b,.slice q0d.a q0d.n q0d.c,.slice q0d.e q0d.m q0d.d,.bool q0e.b,.slice q0e.a q0e.n q0e.c,.slice q0e.e q0e.m q0e.d,.bool q0f.b,.slice q0f.a q0f.n q0f.c,.slice q0f.e q0f.m q0f.d,.bool q0g.b,.slice q0g.a q0g.n q0g.c,.slice q0g.e q0g.m q0g.d,.bool q0h.b,.slice q0h.a q0h.n q0h.c,.slice q0h.e q0h.m q0h.d,.bool q0i.b,.slice q0i.a q0i.n q0i.c,.slice q0i.e q0i.m q0i.d],.agg #[.bool q1a.b,.slice q1a.a q1a.n q1a.c,.slice q1a.e q1a.m q1a.d,.bool q1b.b,.slice q1b.a q1b.n q1b.c,.slice q1b.e q1b.m q1b.d,.bool q1c.b,.slice q1c.a q1c.n q1c.c,.slice q1c.e q1c.m q1c.d]] W (Rv3 W xa xb xc)
abbrev KOut (f:Nat) (x0a x0b x0c:Rat) (v:Value):Prop:=∀ (q0a q0b q0c:QS) (W:World),FQ W q0a x0a→FQ W q0b x0b→FQ W q0c x0c→Calls Tryz.prog f #[.agg #[.bool q0a.b,.slice q0a.a q0a.n q0a.c,.slice q0a.e q0a.m q0a.d,.bool q0b.b,.slice q0b.a q0b.n q0b.c,.slice q0b.e q0b.m q0b.d,.bool q0c.b,.slice q0c.a q0c.n q0c.c,.slice q0c.e q0c.m q0c.d]] W (RP W v)
abbrev KF (f:Nat) (v0:Value) (xa xb xc xd xe xf xg xh xi:Rat):Prop:=∀ W:World,Calls Tryz.prog f #[v0] W (RF W xa xb xc xd xe xf xg xh xi)
abbrev KPs (f:Nat) (v0 v:Value):Prop:=∀ W:World,Calls Tryz.prog f #[v0] W (RP W v)
def Rel.q (x:Rat):Rel:=⟨fun v W=>∃ q:QS,v=q.v∧FQ W q x,fun _ _ _ ⟨q,e,h⟩ hb=>⟨q,e,h.below hb⟩⟩
def Rel.qv (x y z:Rat):Rel:=⟨fun v W=>∃ q r s:QS,v=Qvv q r s∧FQ W q x∧FQ W r y∧FQ W s z,fun _ _ _ ⟨q,r,s,e,h,k,l⟩ hb=>⟨q,r,s,e,h.below hb,k.below hb,l.below hb⟩⟩
def Rel.qf (xa xb xc ya yb yc za zb zc:Rat):Rel:=⟨fun v W=>∃ qa qb qc qd qe qf qg qh qi:QS,v=Qff qa qb qc qd qe qf qg qh qi∧FQ W qa xa∧FQ W qb xb∧FQ W qc xc∧FQ W qd ya∧FQ W qe yb∧FQ W qf yc∧FQ W qg za∧FQ W qh zb∧FQ W qi zc,fun _ _ _ ⟨qa,qb,qc,qd,qe,qf,qg,qh,qi,e,h1,h2,h3,h4,h5,h6,h7,h8,h9⟩ hb=>⟨qa,qb,qc,qd,qe,qf,qg,qh,qi,e,h1.below hb,h2.below hb,h3.below hb,h4.below hb,h5.below hb,h6.below hb,h7.below hb,h8.below hb,h9.below hb⟩⟩
section
variable {ops:Array Oper} {m:Nat} {sl:Nat→Nat} {L:List Rel} {a0:Act} {P:World→Prop} {listed:Array Bool} {a:Act} {w:World}
theorem qAt (h:RInv ops m sl (RelR L) a0 P listed a w)(i d:Nat){j:Nat}{x:Rat}(hj:j∈Region.ready .any ops listed)(hw:Region.waitsFor .any ops j i=true)(hm:i<m:=by decide)(hd:sl i=d:=by rfl)(hR:L.getD i (Rel.val undef)=Rel.q x:=by rfl):∃ q:QS,a.tmps[d]? = some q.v∧Hid (FQ w q x):=by
 obtain⟨v,hv,hr⟩:=h.at hj hw hm;unfold RelR at hr
 rw[hR]at hr;obtain⟨q,rfl,hq⟩:=hr;exact⟨q,hd▸hv,hid hq⟩
theorem qAtv (h:RInv ops m sl (RelR L) a0 P listed a w)(i d:Nat){j:Nat}{x y z:Rat}(hj:j∈Region.ready .any ops listed)(hw:Region.waitsFor .any ops j i=true)(hm:i<m:=by decide)(hd:sl i=d:=by rfl)(hR:L.getD i (Rel.val undef)=Rel.qv x y z:=by rfl):∃ q r s:QS,a.tmps[d]? = some (Qvv q r s)∧Hid (FQ w q x)∧Hid (FQ w r y)∧Hid (FQ w s z):=by
 obtain⟨v,hv,hr⟩:=h.at hj hw hm;unfold RelR at hr
 rw[hR]at hr;obtain⟨q,r,s,rfl,hq,hr,hs⟩:=hr;exact⟨q,r,s,hd▸hv,hid hq,hid hr,hid hs⟩
theorem qEnd (h:RInv ops m sl (RelR L) a0 P listed a w)(hall:∀ j,j<m→listed.getD j false=true)(i d:Nat){x:Rat}(hm:i<m:=by decide)(hd:sl i=d:=by rfl)(hR:L.getD i (Rel.val undef)=Rel.q x:=by rfl):∃ q:QS,a.tmps[d]? = some q.v∧Hid (FQ w q x):=by
 obtain⟨v,hv,hr⟩:=h.slots i hm (hall i hm);unfold RelR at hr
 rw[hR]at hr;obtain⟨q,rfl,hq⟩:=hr;exact⟨q,hd▸hv,hid hq⟩
theorem mY (h:RInv ops m sl (RelR L) a0 P listed a w)(hall:∀ j,j<m→listed.getD j false=true)(i d:Nat){x y z:Rat}(hm:i<m:=by decide)(hd:sl i=d:=by rfl)(hR:L.getD i (Rel.val undef)=Rel.qv x y z:=by rfl):∃ q r s:QS,a.tmps[d]? = some (Qvv q r s)∧Hid (FQ w q x)∧Hid (FQ w r y)∧Hid (FQ w s z):=by
 obtain⟨v,hv,hr⟩:=h.slots i hm (hall i hm);unfold RelR at hr
 rw[hR]at hr;obtain⟨q,r,s,rfl,hq,hr,hs⟩:=hr;exact⟨q,r,s,hd▸hv,hid hq,hid hr,hid hs⟩
theorem z5a (h:RInv ops m sl (RelR L) a0 P listed a w)(hall:∀ j,j<m→listed.getD j false=true)(i d:Nat){xa xb xc ya yb yc za zb zc:Rat}(hm:i<m:=by decide)(hd:sl i=d:=by rfl)(hR:L.getD i (Rel.val undef)=Rel.qf xa xb xc ya yb yc za zb zc:=by rfl):∃ qa qb qc qd qe qf qg qh qi:QS,a.tmps[d]? = some (Qff qa qb qc qd qe qf qg qh qi)∧Hid (FQ w qa xa)∧Hid (FQ w qb xb)∧Hid (FQ w qc xc)∧Hid (FQ w qd ya)∧Hid (FQ w qe yb)∧Hid (FQ w qf yc)∧Hid (FQ w qg za)∧Hid (FQ w qh zb)∧Hid (FQ w qi zc):=by
 obtain⟨v,hv,hr⟩:=h.slots i hm (hall i hm);unfold RelR at hr
 rw[hR]at hr;obtain⟨qa,qb,qc,qd,qe,qf,qg,qh,qi,rfl,h1,h2,h3,h4,h5,h6,h7,h8,h9⟩:=hr;exact⟨qa,qb,qc,qd,qe,qf,qg,qh,qi,hd▸hv,hid h1,hid h2,hid h3,hid h4,hid h5,hid h6,hid h7,hid h8,hid h9⟩
end
theorem cells3 {w:World}{g:Nat}{T:TypeId}{x0 x1 x2:Value}(h:SBk w g #[x0,x1,x2] T):w.cell? ⟨g,0,none⟩=some x0∧w.cell? ⟨g,1,none⟩=some x1∧w.cell? ⟨g,2,none⟩=some x2:=⟨h.cell (i:=0) rfl,h.cell (i:=1) rfl,h.cell (i:=2) rfl⟩
theorem iU {w:World}{g:Nat}{T:TypeId}{x0 x1 x2 x3 x4 x5 x6 x7 x8:Value}(h:SBk w g #[x0,x1,x2,x3,x4,x5,x6,x7,x8] T):w.cell? ⟨g,0,none⟩=some x0∧w.cell? ⟨g,1,none⟩=some x1∧w.cell? ⟨g,2,none⟩=some x2∧w.cell? ⟨g,3,none⟩=some x3∧w.cell? ⟨g,4,none⟩=some x4∧w.cell? ⟨g,5,none⟩=some x5∧w.cell? ⟨g,6,none⟩=some x6∧w.cell? ⟨g,7,none⟩=some x7∧w.cell? ⟨g,8,none⟩=some x8:=⟨h.cell (i:=0) rfl,h.cell (i:=1) rfl,h.cell (i:=2) rfl,h.cell (i:=3) rfl,h.cell (i:=4) rfl,h.cell (i:=5) rfl,h.cell (i:=6) rfl,h.cell (i:=7) rfl,h.cell (i:=8) rfl⟩
theorem uO {w:World}{g:Nat}{T:TypeId}{x0 x1 x2 x3 x4 x5 x6 x7 x8 x9 x10 x11 x12 x13 x14 x15 x16 x17 x18 x19 x20 x21 x22 x23 x24 x25 x26:Value}(h:SBk w g #[x0,x1,x2,x3,x4,x5,x6,x7,x8,x9,x10,x11,x12,x13,x14,x15,x16,x17,x18,x19,x20,x21,x22,x23,x24,x25,x26] T):w.cell? ⟨g,0,none⟩=some x0∧w.cell? ⟨g,1,none⟩=some x1∧w.cell? ⟨g,2,none⟩=some x2∧w.cell? ⟨g,3,none⟩=some x3∧w.cell? ⟨g,4,none⟩=some x4∧w.cell? ⟨g,5,none⟩=some x5∧w.cell? ⟨g,6,none⟩=some x6∧w.cell? ⟨g,7,none⟩=some x7∧w.cell? ⟨g,8,none⟩=some x8∧w.cell? ⟨g,9,none⟩=some x9∧w.cell? ⟨g,10,none⟩=some x10∧w.cell? ⟨g,11,none⟩=some x11∧w.cell? ⟨g,12,none⟩=some x12∧w.cell? ⟨g,13,none⟩=some x13∧w.cell? ⟨g,14,none⟩=some x14∧w.cell? ⟨g,15,none⟩=some x15∧w.cell? ⟨g,16,none⟩=some x16∧w.cell? ⟨g,17,none⟩=some x17∧w.cell? ⟨g,18,none⟩=some x18∧w.cell? ⟨g,19,none⟩=some x19∧w.cell? ⟨g,20,none⟩=some x20∧w.cell? ⟨g,21,none⟩=some x21∧w.cell? ⟨g,22,none⟩=some x22∧w.cell? ⟨g,23,none⟩=some x23∧w.cell? ⟨g,24,none⟩=some x24∧w.cell? ⟨g,25,none⟩=some x25∧w.cell? ⟨g,26,none⟩=some x26:=⟨h.cell (i:=0) rfl,h.cell (i:=1) rfl,h.cell (i:=2) rfl,h.cell (i:=3) rfl,h.cell (i:=4) rfl,h.cell (i:=5) rfl,h.cell (i:=6) rfl,h.cell (i:=7) rfl,h.cell (i:=8) rfl,h.cell (i:=9) rfl,h.cell (i:=10) rfl,h.cell (i:=11) rfl,h.cell (i:=12) rfl,h.cell (i:=13) rfl,h.cell (i:=14) rfl,h.cell (i:=15) rfl,h.cell (i:=16) rfl,h.cell (i:=17) rfl,h.cell (i:=18) rfl,h.cell (i:=19) rfl,h.cell (i:=20) rfl,h.cell (i:=21) rfl,h.cell (i:=22) rfl,h.cell (i:=23) rfl,h.cell (i:=24) rfl,h.cell (i:=25) rfl,h.cell (i:=26) rfl⟩
theorem frz3 {w:World}{g:Nat}{T:TypeId}{x0 x1 x2:Value}(h:SBk w g #[x0,x1,x2] T):w.frozen? ⟨g,0,none⟩=false∧w.frozen? ⟨g,1,none⟩=false∧w.frozen? ⟨g,2,none⟩=false:=⟨h.frozen (i:=0),h.frozen (i:=1),h.frozen (i:=2)⟩
theorem frz9 {w:World}{g:Nat}{T:TypeId}{x0 x1 x2 x3 x4 x5 x6 x7 x8:Value}(h:SBk w g #[x0,x1,x2,x3,x4,x5,x6,x7,x8] T):w.frozen? ⟨g,0,none⟩=false∧w.frozen? ⟨g,1,none⟩=false∧w.frozen? ⟨g,2,none⟩=false∧w.frozen? ⟨g,3,none⟩=false∧w.frozen? ⟨g,4,none⟩=false∧w.frozen? ⟨g,5,none⟩=false∧w.frozen? ⟨g,6,none⟩=false∧w.frozen? ⟨g,7,none⟩=false∧w.frozen? ⟨g,8,none⟩=false:=⟨h.frozen (i:=0),h.frozen (i:=1),h.frozen (i:=2),h.frozen (i:=3),h.frozen (i:=4),h.frozen (i:=5),h.frozen (i:=6),h.frozen (i:=7),h.frozen (i:=8)⟩
theorem z5i {w:World}{g:Nat}{T:TypeId}{x0 x1 x2 x3 x4 x5 x6 x7 x8 x9 x10 x11 x12 x13 x14 x15 x16 x17 x18 x19 x20 x21 x22 x23 x24 x25 x26:Value}(h:SBk w g #[x0,x1,x2,x3,x4,x5,x6,x7,x8,x9,x10,x11,x12,x13,x14,x15,x16,x17,x18,x19,x20,x21,x22,x23,x24,x25,x26] T):w.frozen? ⟨g,0,none⟩=false∧w.frozen? ⟨g,1,none⟩=false∧w.frozen? ⟨g,2,none⟩=false∧w.frozen? ⟨g,3,none⟩=false∧w.frozen? ⟨g,4,none⟩=false∧w.frozen? ⟨g,5,none⟩=false∧w.frozen? ⟨g,6,none⟩=false∧w.frozen? ⟨g,7,none⟩=false∧w.frozen? ⟨g,8,none⟩=false∧w.frozen? ⟨g,9,none⟩=false∧w.frozen? ⟨g,10,none⟩=false∧w.frozen? ⟨g,11,none⟩=false∧w.frozen? ⟨g,12,none⟩=false∧w.frozen? ⟨g,13,none⟩=false∧w.frozen? ⟨g,14,none⟩=false∧w.frozen? ⟨g,15,none⟩=false∧w.frozen? ⟨g,16,none⟩=false∧w.frozen? ⟨g,17,none⟩=false∧w.frozen? ⟨g,18,none⟩=false∧w.frozen? ⟨g,19,none⟩=false∧w.frozen? ⟨g,20,none⟩=false∧w.frozen? ⟨g,21,none⟩=false∧w.frozen? ⟨g,22,none⟩=false∧w.frozen? ⟨g,23,none⟩=false∧w.frozen? ⟨g,24,none⟩=false∧w.frozen? ⟨g,25,none⟩=false∧w.frozen? ⟨g,26,none⟩=false:=⟨h.frozen (i:=0),h.frozen (i:=1),h.frozen (i:=2),h.frozen (i:=3),h.frozen (i:=4),h.frozen (i:=5),h.frozen (i:=6),h.frozen (i:=7),h.frozen (i:=8),h.frozen (i:=9),h.frozen (i:=10),h.frozen (i:=11),h.frozen (i:=12),h.frozen (i:=13),h.frozen (i:=14),h.frozen (i:=15),h.frozen (i:=16),h.frozen (i:=17),h.frozen (i:=18),h.frozen (i:=19),h.frozen (i:=20),h.frozen (i:=21),h.frozen (i:=22),h.frozen (i:=23),h.frozen (i:=24),h.frozen (i:=25),h.frozen (i:=26)⟩
end Go.Proofs.YtlgkolkcokaefaaGreatDoor
