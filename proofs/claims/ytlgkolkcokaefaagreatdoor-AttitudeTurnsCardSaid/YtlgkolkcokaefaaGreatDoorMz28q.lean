/- texts -/
import Derived.Test.YtlgkolkcokaefaaGreatDoorZd
import Derived.Test.YtlgkolkcokaefaaGreatDoorMz27q
open Go.Proofs.Tryz
namespace Go.Proofs.YtlgkolkcokaefaaGreatDoor
open Go.RowKit Go.Gb
theorem z3c (a b:Nat)(h:(ae a).length≤50000):(ae (a-b)).length≤1000000:=by have:=aN (Nat.sub_le a b);omega
theorem z2V {f:FuncId}{args:Array Value}{w:World}{z:Int}(h:Calls Tryz.prog f args w fun e w'=>∃ p c,e=.returned (.agg #[.bool (ai z),.slice p (aa z) c])∧RN w' (.slice p (aa z) c) z.natAbs∧Below w.heap.size w w') :
 Calls Tryz.prog f args w fun e w'=>∃ u,e=.returned u∧Rz w' u z∧Below w.heap.size w w' :=
 h.mono fun _ _ ⟨_,_,e,r,hb⟩=>⟨_,e,Rz.mk r,hb⟩
theorem zG {x y:Int}(h:(ai x==ai y)=true):x+y=(if ai x=true then -((x.natAbs+y.natAbs:Nat):Int) else ((x.natAbs+y.natAbs:Nat):Int)):=by
 unfold ai at *
 by_cases hx:x<0<;>by_cases hy:y<0<;>simp[hx,hy]at h ⊢ <;> omega
theorem oF {x y:Int}(h:(ai x==ai y)=false):(y.natAbs≤x.natAbs→x+y=(if ai x=true then -((x.natAbs-y.natAbs:Nat):Int) else ((x.natAbs-y.natAbs:Nat):Int)))∧(x.natAbs<y.natAbs→x+y=(if ai y=true then -((y.natAbs-x.natAbs:Nat):Int) else ((y.natAbs-x.natAbs:Nat):Int))):=by
 unfold ai at *
 by_cases hx:x<0<;>by_cases hy:y<0<;>simp[hx,hy]at h ⊢ <;> constructor<;>intro h2<;>omega
theorem z3X (u1 u2:Value)(x y:Int)(hx:(ae x.natAbs).length≤50000)(hy:(ae y.natAbs).length≤50000)(w:World)(h1:Rz w u1 x)(h2:Rz w u2 y) :
 Calls Tryz.prog 86 #[u1,u2] w fun e w'=>∃ u,e=.returned u∧Rz w' u (x+y)∧Below w.heap.size w w':=by
 obtain⟨p1,c1,rfl,r1⟩:=h1.sh;obtain⟨p2,c2,rfl,r2⟩:=h2.sh;have hsl:=gZ hx hy;have hx':ag x.natAbs≤50000:=hx;have hy':ag y.natAbs≤50000:=hy;have hsl':ag (x.natAbs+y.natAbs)≤50001:=hsl;have hd1:ag (x.natAbs-y.natAbs)≤1000000:=z3c _ _ hx;have hd2:ag (y.natAbs-x.natAbs)≤1000000:=z3c _ _ hy;refine z2V ?_
 cases hs:(ai x==ai y) with
 | true=>exact yh x y (x+y) (x.natAbs+y.natAbs) hs p1 c1 p2 c2 w (fun p1 c1 p2 c2 W h1 h2=>z5i _ _ _ _ (by omega) (by omega) W h1 h2) (fun s d W h=>mg _ _ _ _ (zG hs) (by omega) W h) r1 r2
 | false =>
   rcases Nat.lt_or_ge x.natAbs y.natAbs with h|h
   · exact z2E x y (x+y) (y.natAbs-x.natAbs) (-1) (by decide) hs p1 c1 p2 c2 w (fun p1 c1 p2 c2 W h1 h2=>by have k:=cCmp (.slice p1 (aa x) c1) (.slice p2 (aa y) c2) x.natAbs y.natAbs (by omega) W h1 h2;rwa [fD h]at k) (fun p1 c1 p2 c2 W h1 h2=>z3d _ _ _ _ (by omega) (by omega) W h1 h2) (fun s d W h'=>mg _ _ _ _ ((oF hs).2 h) hd2 W h') r1 r2
   · exact z2F x y (x+y) (x.natAbs-y.natAbs) (cmpN x.natAbs y.natAbs) (by unfold cmpN;split<;>(try split)<;>omega) hs p1 c1 p2 c2 w (fun p1 c1 p2 c2 W h1 h2=>cCmp _ _ _ _ (by omega) W h1 h2) (fun p1 c1 p2 c2 W h1 h2=>z3d _ _ _ _ h (by omega) W h1 h2) (fun s d W h'=>mg _ _ _ _ ((oF hs).1 h) hd1 W h') r1 r2
theorem xn (x y:Int):x*y=(if (decide (x<0) != decide (y<0)) then -((x.natAbs*y.natAbs:Nat):Int) else ((x.natAbs*y.natAbs:Nat):Int)):=by
 rw[Int.natCast_mul];by_cases hx:x<0
 · by_cases hy:y<0
   · have e1:(x.natAbs:Int) = -x:=by omega
     have e2:(y.natAbs:Int) = -y:=by omega
     rw[e1,e2];simp[hx,hy,Int.neg_mul,Int.mul_neg]
   · have e1:(x.natAbs:Int) = -x:=by omega
     have e2:(y.natAbs:Int)=y:=by omega
     rw[e1,e2];simp[hx,hy,Int.neg_mul]
 · by_cases hy:y<0
   · have e1:(x.natAbs:Int)=x:=by omega
     have e2:(y.natAbs:Int) = -y:=by omega
     rw[e1,e2];simp[hx,hy,Int.mul_neg]
   · have e1:(x.natAbs:Int)=x:=by omega
     have e2:(y.natAbs:Int)=y:=by omega
     rw[e1,e2];simp[hx,hy]
theorem z3V (u1 u2:Value)(x y:Int)(hx:(ae x.natAbs).length≤50000)(hy:(ae y.natAbs).length≤50000)(w:World)(h1:Rz w u1 x)(h2:Rz w u2 y) :
 Calls Tryz.prog 82 #[u1,u2] w fun e w'=>∃ u,e=.returned u∧Rz w' u (x*y)∧Below w.heap.size w w':=by
 obtain⟨p1,c1,rfl,r1⟩:=h1.sh;obtain⟨p2,c2,rfl,r2⟩:=h2.sh;have hml:=gY x.natAbs y.natAbs;have hml':ag (x.natAbs*y.natAbs)≤ag x.natAbs+ag y.natAbs:=hml;have hx':ag x.natAbs≤50000:=hx;have hy':ag y.natAbs≤50000:=hy;exact z2V (yg x y (x*y) (x.natAbs*y.natAbs) p1 c1 p2 c2 w (fun p1 c1 p2 c2 W h1 h2=>nP _ _ _ _ (by omega) (by omega) W h1 h2) (fun s d W h=>mg _ _ _ _ (xn x y) (by omega) W h) r1 r2)
theorem vT {w:World}{v:Value}{xs:List Nat}{g:Nat}{b:Bool}{q:Option Addr}{l c:Nat}{T:TypeId}{fz:Nat × Nat}(hg:w.heap[g]? = some (.cells #[.bool b,.slice q l c] T fz))(h:Rd .u32 w v xs)(i:Nat)(u:Value):Rd .u32 (w.setCell ⟨g,i,none⟩ u) v xs:=by
 rcases h with h|⟨b',o,c',h1,h2,h3,h4,h5⟩
 · exact Or.inl h
 · refine Or.inr ⟨b',o,c',h1,h2,h3,by simpa [World.setCell] using h4,fun j hj=>?_⟩
   have h6:=h5 j hj
   have hne:b'≠g:=by
    intro e;subst e;simp only[World.cell?,hg]at h6
    match hk:o+j with
    | 0=>rw[hk]at h6;simp at h6
    | 1=>rw[hk]at h6;simp at h6
    | n+2=>rw[hk]at h6;simp at h6
   exact(yD hne).trans h6
set_option maxRecDepth 100000
set_option maxHeartbeats 20000000
open Go.Lib (hid)
theorem sF {W W':World}{g:Nat}{o:Obj}(h:W.heap[g]? = some o)(hb:Below W.heap.size W W'):W'.heap[g]? = some o:=by
 rw[hb.block g (Array.getElem?_eq_some_iff.1 h).1];exact h
theorem heap_set {W:World}{g i:Nat}{b b':Bool}{q:Option Addr}{l c:Nat}{T:TypeId}{fz:Nat × Nat}(h:W.heap[g]? = some (.cells #[.bool b,.slice q l c] T fz))(hi:i=0):(W.setCell ⟨g,i,none⟩ (.bool b')).heap[g]? = some (.cells #[.bool b',.slice q l c] T fz):=by
 subst hi;simp only[World.setCell,Array.getElem?_modify,h];simp
theorem yj (ba bb ob r:Bool)(p1:Option Addr)(l1 c1:Nat)(p2:Option Addr)(l2 c2:Nat)(m n L:Nat)(w:World)
 (hO:∀ W,Below w.heap.size w W→Calls Tryz.prog 90 #[.agg #[.bool bb,.slice p2 l2 c2]] W fun e w'=>∃ p c,e=.returned (.agg #[.bool ob,.slice p l2 c])∧Rd .u32 w' (.slice p l2 c) (ae m)∧Below W.heap.size W w')
 (hQ:∀ W p c,Below w.heap.size w W→Rd .u32 W (.slice p l2 c) (ae m)→Calls Tryz.prog 86 #[.agg #[.bool ba,.slice p1 l1 c1],.agg #[.bool ob,.slice p l2 c]] W fun e w'=>∃ p' c',e=.returned (.agg #[.bool r,.slice p' L c'])∧Rd .u32 w' (.slice p' L c') (ae n)∧Below W.heap.size W w') :
 Calls Tryz.prog 134 #[.agg #[.bool ba,.slice p1 l1 c1],.agg #[.bool bb,.slice p2 l2 c2]] w fun e w'=>∃ v,e=.returned (.agg #[.bool r,v])∧Rd .u32 w' v (ae n)∧Below w.heap.size w w':=by
 have HO:=hid hO;have HQ:=hid hQ;have HW:=hid (((((Below.refl w.heap.size w).alloc (Nat.le_refl _) (.cells #[.bool ba,.slice p1 l1 c1] 51)).alloc (by simp) (.cells #[.bool bb,.slice p2 l2 c2] 51)).alloc (by simp;omega) (.cells #[.bool false,.slice none 0 0] 51)))
 have AH:=hid (show(((w.alloc (.cells #[.bool ba,.slice p1 l1 c1] 51)).alloc (.cells #[.bool bb,.slice p2 l2 c2] 51)).alloc (.cells #[.bool false,.slice none 0 0] 51)).heap[w.heap.size+1+1]? = some (.cells #[.bool false,.slice none 0 0] 51 (0,0)) by
  rw[show w.heap.size+1+1=((w.alloc (.cells #[.bool ba,.slice p1 l1 c1] 51)).alloc (.cells #[.bool bb,.slice p2 l2 c2] 51)).heap.size by simp];exact heap_alloc_new _ _)
 have A00:=hid (show(((w.alloc (.cells #[.bool ba,.slice p1 l1 c1] 51)).alloc (.cells #[.bool bb,.slice p2 l2 c2] 51)).alloc (.cells #[.bool false,.slice none 0 0] 51)).cell? ⟨w.heap.size,0,none⟩=some (.bool ba) by rw[eF (by simp;omega),eF (by simp),oo rfl];rfl);have A01:=hid (show(((w.alloc (.cells #[.bool ba,.slice p1 l1 c1] 51)).alloc (.cells #[.bool bb,.slice p2 l2 c2] 51)).alloc (.cells #[.bool false,.slice none 0 0] 51)).cell? ⟨w.heap.size,1,none⟩=some (.slice p1 l1 c1) by rw[eF (by simp;omega),eF (by simp),oo rfl];rfl);have A10:=hid (show(((w.alloc (.cells #[.bool ba,.slice p1 l1 c1] 51)).alloc (.cells #[.bool bb,.slice p2 l2 c2] 51)).alloc (.cells #[.bool false,.slice none 0 0] 51)).cell? ⟨w.heap.size+1,0,none⟩=some (.bool bb) by rw[eF (by simp),oo (by simp)];rfl);have A11:=hid (show(((w.alloc (.cells #[.bool ba,.slice p1 l1 c1] 51)).alloc (.cells #[.bool bb,.slice p2 l2 c2] 51)).alloc (.cells #[.bool false,.slice none 0 0] 51)).cell? ⟨w.heap.size+1,1,none⟩=some (.slice p2 l2 c2) by rw[eF (by simp),oo (by simp)];rfl);have A20:=hid (show(((w.alloc (.cells #[.bool ba,.slice p1 l1 c1] 51)).alloc (.cells #[.bool bb,.slice p2 l2 c2] 51)).alloc (.cells #[.bool false,.slice none 0 0] 51)).cell? ⟨w.heap.size+1+1,0,none⟩=some (.bool false) by rw[oo (by simp)];rfl);have A21:=hid (show(((w.alloc (.cells #[.bool ba,.slice p1 l1 c1] 51)).alloc (.cells #[.bool bb,.slice p2 l2 c2] 51)).alloc (.cells #[.bool false,.slice none 0 0] 51)).cell? ⟨w.heap.size+1+1,1,none⟩=some (.slice none 0 0) by rw[oo (by simp)];rfl);have F0:=hid (show(((w.alloc (.cells #[.bool ba,.slice p1 l1 c1] 51)).alloc (.cells #[.bool bb,.slice p2 l2 c2] 51)).alloc (.cells #[.bool false,.slice none 0 0] 51)).frozen? ⟨w.heap.size+1+1,0,none⟩=false by rw[z2N (by simp)]);have F1:=hid (show(((w.alloc (.cells #[.bool ba,.slice p1 l1 c1] 51)).alloc (.cells #[.bool bb,.slice p2 l2 c2] 51)).alloc (.cells #[.bool false,.slice none 0 0] 51)).frozen? ⟨w.heap.size+1+1,1,none⟩=false by rw[z2N (by simp)]);clear hO hQ;go_enter func134,ntmps134
 go_wp2
 go_region_held3 (fun w'=>w'.cell? ⟨w.heap.size,0,none⟩=some (.bool ba)∧w'.cell? ⟨w.heap.size,1,none⟩=some (.slice p1 l1 c1)∧w'.cell? ⟨w.heap.size+1,0,none⟩=some (.bool bb)∧w'.cell? ⟨w.heap.size+1,1,none⟩=some (.slice p2 l2 c2)) (first|((try go_split_ands);refine⟨?_,?_,?_,?_⟩<;>(first|(with_reducible assumption)|((repeat (first|rw[mQ]|rw[eF (by first|assumption|omega|(simp;done)|(simp;omega))]|rw[yD (by omega)]));first|(with_reducible assumption)|(simp;done))))|(go_keep;done))
  (first|(go_at_call 90;refine(HO.out _ ?bd).mono ?_;(case bd=>first|exact HW.out|exact HW.out.drew);rintro e w1 ⟨po,co,rfl,ro,hb1⟩;obtain⟨hc1,hf1⟩:=eT hb1;have hs1:=hb1.size;(try simp at hs1);have q10:w.heap.size<w1.heap.size:=(by omega);have q11:w.heap.size+1<w1.heap.size:=(by omega);have q12:w.heap.size+1+1<w1.heap.size:=(by omega);have s100:w1.cell? ⟨w.heap.size,0,none⟩=some (.bool ba):=(by rw[hc1 _ _ (by first|assumption|omega|(simp;done)|(simp;omega))];first|(with_reducible assumption)|exact A00.out);have s101:w1.cell? ⟨w.heap.size,1,none⟩=some (.slice p1 l1 c1):=(by rw[hc1 _ _ (by first|assumption|omega|(simp;done)|(simp;omega))];first|(with_reducible assumption)|exact A01.out);have s110:w1.cell? ⟨w.heap.size+1,0,none⟩=some (.bool bb):=(by rw[hc1 _ _ (by first|assumption|omega|(simp;done)|(simp;omega))];first|(with_reducible assumption)|exact A10.out);have s111:w1.cell? ⟨w.heap.size+1,1,none⟩=some (.slice p2 l2 c2):=(by rw[hc1 _ _ (by first|assumption|omega|(simp;done)|(simp;omega))];first|(with_reducible assumption)|exact A11.out);have s120:w1.cell? ⟨w.heap.size+1+1,0,none⟩=some (.bool false):=(by rw[hc1 _ _ (by first|assumption|omega|(simp;done)|(simp;omega))];first|(with_reducible assumption)|exact A20.out);have s121:w1.cell? ⟨w.heap.size+1+1,1,none⟩=some (.slice none 0 0):=(by rw[hc1 _ _ (by first|assumption|omega|(simp;done)|(simp;omega))];first|(with_reducible assumption)|exact A21.out);have f10:w1.frozen? ⟨w.heap.size+1+1,0,none⟩=false:=(by rw[hf1 _ _ (by first|assumption|omega|(simp;done)|(simp;omega))];first|(with_reducible assumption)|exact F0.out);have f11:w1.frozen? ⟨w.heap.size+1+1,1,none⟩=false:=(by rw[hf1 _ _ (by first|assumption|omega|(simp;done)|(simp;omega))];first|(with_reducible assumption)|exact F1.out);have HB1:=hid (show Below w.heap.size w w1 from Below.trans HW.out (by first|exact hb1.mono (by first|omega|(simp;omega)|simp)|exact Below.trans (Below.drew (Below.refl _ _)) (hb1.mono (by first|omega|(simp;omega)|simp))));have RO:=hid ro;have hg1:=hid (show w1.heap[w.heap.size+1+1]? = some (.cells #[.bool false,.slice none 0 0] 51 (0,0)) from(by refine sF ?_ hb1;exact AH.out)))|(go_at_call 86;refine(HQ.out w1 po co HB1.out RO.out).mono ?_;rintro e w2 ⟨pv,cv,rfl,rv,hb2⟩;obtain⟨hc2,hf2⟩:=eT hb2;have hs2:=hb2.size;(try simp at hs2);have q20:w.heap.size<w2.heap.size:=(by omega);have q21:w.heap.size+1<w2.heap.size:=(by omega);have q22:w.heap.size+1+1<w2.heap.size:=(by omega);have s200:w2.cell? ⟨w.heap.size,0,none⟩=some (.bool ba):=(by rw[hc2 _ _ (by first|assumption|omega|(simp;done)|(simp;omega))];first|(with_reducible assumption)|exact A00.out);have s201:w2.cell? ⟨w.heap.size,1,none⟩=some (.slice p1 l1 c1):=(by rw[hc2 _ _ (by first|assumption|omega|(simp;done)|(simp;omega))];first|(with_reducible assumption)|exact A01.out);have s210:w2.cell? ⟨w.heap.size+1,0,none⟩=some (.bool bb):=(by rw[hc2 _ _ (by first|assumption|omega|(simp;done)|(simp;omega))];first|(with_reducible assumption)|exact A10.out);have s211:w2.cell? ⟨w.heap.size+1,1,none⟩=some (.slice p2 l2 c2):=(by rw[hc2 _ _ (by first|assumption|omega|(simp;done)|(simp;omega))];first|(with_reducible assumption)|exact A11.out);have s220:w2.cell? ⟨w.heap.size+1+1,0,none⟩=some (.bool false):=(by rw[hc2 _ _ (by first|assumption|omega|(simp;done)|(simp;omega))];first|(with_reducible assumption)|exact A20.out);have s221:w2.cell? ⟨w.heap.size+1+1,1,none⟩=some (.slice none 0 0):=(by rw[hc2 _ _ (by first|assumption|omega|(simp;done)|(simp;omega))];first|(with_reducible assumption)|exact A21.out);have f20:w2.frozen? ⟨w.heap.size+1+1,0,none⟩=false:=(by rw[hf2 _ _ (by first|assumption|omega|(simp;done)|(simp;omega))];first|(with_reducible assumption)|exact F0.out);have f21:w2.frozen? ⟨w.heap.size+1+1,1,none⟩=false:=(by rw[hf2 _ _ (by first|assumption|omega|(simp;done)|(simp;omega))];first|(with_reducible assumption)|exact F1.out);have hg2:=hid (sF hg1.out hb2))|fail)
 all_goals
  go_wp2;have HB:Below w.heap.size w w2:=HB1.out.trans (hb2.mono HB1.out.size);refine bodyPost_ret (v:=.agg #[.bool r,.slice pv L cv]) (by simp[results,results134,go_sem,s220,s221]) rfl ⟨_,rfl,?_,?_⟩
  · exact vT (heap_set hg2.out rfl) (vT hg2.out rv 0 _) 1 _
  · exact(HB.setCell (p:=⟨w.heap.size+1+1,0,none⟩) (by show w.heap.size≤w.heap.size+1+1;omega) _).setCell (p:=⟨w.heap.size+1+1,1,none⟩) (by show w.heap.size≤w.heap.size+1+1;omega) _
theorem z3Y (u1 u2:Value)(x y:Int)(hx:(ae x.natAbs).length≤50000)(hy:(ae y.natAbs).length≤50000)(w:World)(h1:Rz w u1 x)(h2:Rz w u2 y) :
 Calls Tryz.prog 134 #[u1,u2] w fun e w'=>∃ u,e=.returned u∧Rz w' u (x-y)∧Below w.heap.size w w':=by
 obtain⟨p1,c1,rfl,r1⟩:=iM h1;obtain⟨p2,c2,rfl,r2⟩:=iM h2;refine(yj (decide (x<0)) (decide (y<0)) (decide (-y<0)) (decide (x-y<0)) p1 _ c1 p2 _ c2 (-y).natAbs (x-y).natAbs (ae (x-y).natAbs).length w ?_ ?_).mono ?_
 · intro W hW
   have h:=qV _ y (by omega) W (Rz.below ⟨_,rfl,r2⟩ hW);exact pO rfl (by rw[Int.natAbs_neg]) h
 · intro W p c hW hr
   have h:=z3X (.agg #[.bool (decide (x<0)),.slice p1 (ae x.natAbs).length c1]) (.agg #[.bool (decide (-y<0)),.slice p (ae y.natAbs).length c]) x (-y) hx (by rw[Int.natAbs_neg];exact hy) W (Rz.below ⟨_,rfl,r1⟩ hW) ⟨_,rfl,hr⟩;rw[← Int.sub_eq_add_neg]at h;exact pO rfl rfl h
 · rintro e w' ⟨v,e1,e2,e3⟩
   exact⟨_,e1,⟨_,rfl,e2⟩,e3⟩
end Go.Proofs.YtlgkolkcokaefaaGreatDoor
set_option maxRecDepth 100000
set_option maxHeartbeats 20000000
namespace Go.Proofs.YtlgkolkcokaefaaGreatDoor
open Go.RowKit Go.Gb
theorem z2G (ba bb r:Bool)(p1:Option Addr)(l1 c1:Nat)(p2:Option Addr)(l2 c2:Nat)(L:Nat)(s:Int)(w:World)
 (hs:s=if r=true then -1 else if 0<L then 1 else 0)
 (hM:∀ W,Below w.heap.size w W→Calls Tryz.prog 134 #[.agg #[.bool ba,.slice p1 l1 c1],.agg #[.bool bb,.slice p2 l2 c2]] W fun e w'=>∃ p c,e=.returned (.agg #[.bool r,.slice p L c])∧Below W.heap.size W w') :
 CR 118 #[.agg #[.bool ba,.slice p1 l1 c1],.agg #[.bool bb,.slice p2 l2 c2]] w (.int .i64 s):=by
 have HM:=Lib.hid hM;have HS:=Lib.hid (fun W p c=>nT r p L c s hs W);have HW:=Lib.hid (((Below.refl w.heap.size w).alloc (Nat.le_refl _) (.cells #[.bool ba,.slice p1 l1 c1] 51)).alloc (by simp) (.cells #[.bool bb,.slice p2 l2 c2] 51));clear hM hs;go_enter func118,ntmps118
 go_wp2_with fail
 refine(HM.out _ HW.out).mono ?_;rintro e w1 ⟨p,c,rfl,hb1⟩;have HB1:=Lib.hid (HW.out.trans (hb1.mono HW.out.size));clear hb1;go_wp2_with fail
 refine(HS.out w1 p c).mono ?_;rintro e w2 ⟨rfl,hb⟩;have HB2:=Lib.hid (HB1.out.trans (hb.mono HB1.out.size));clear hb;go_wp2;go_ret
 exact⟨rfl,HB2.out⟩
theorem zCmp (u1 u2:Value)(x y:Int)(hx:(ae x.natAbs).length≤50000)(hy:(ae y.natAbs).length≤50000)(w:World)(h1:Rz w u1 x)(h2:Rz w u2 y) :
 CR 118 #[u1,u2] w (.int .i64 (cmpZ x y)):=by
 obtain⟨p1,c1,rfl,r1⟩:=iM h1;obtain⟨p2,c2,rfl,r2⟩:=iM h2;refine z2G _ _ (decide (x-y<0)) p1 _ c1 p2 _ c2 (ae (x-y).natAbs).length (cmpZ x y) w ?_ ?_
 · have hl:=qw (x-y).natAbs
   rcases Int.lt_trichotomy x y with h|h|h
   · rw[nM h,if_pos (decide_eq_true (by omega))]
   · subst h
     rw[qH,Int.sub_self];simp[aP]
   · rw[nN h,if_neg (by rw[decide_eq_false (by omega)];simp),if_pos]
     exact List.length_pos_iff.2 (by rw[bI (by omega)];simp)
 · intro W hW
   exact(pO rfl rfl (z3Y _ _ x y hx hy W (Rz.below ⟨_,rfl,r1⟩ hW) (Rz.below ⟨_,rfl,r2⟩ hW))).mono fun e w' ⟨p,c,e1,_,e3⟩=>⟨p,c,e1,e3⟩
theorem sTo (z:Int)(s:ByteArray)(hs:Sz z=s)(hf:aa z≤10000)(hs2:(Sn z.natAbs).size≤100000)(p:Option Addr)(c:Nat)(w:World)(h:RN w (.slice p (aa z) c) z.natAbs) :
 CR 52 #[.agg #[.bool (ai z),.slice p (aa z) c]] w (.string s):=by subst hs;exact zTo _ z hf hs2 w (Rz.mk h)
theorem ug (z s:Int)(hs:z.sign=s)(p:Option Addr)(c:Nat)(w:World)(h:RN w (.slice p (aa z) c) z.natAbs) :
 CR 50 #[.agg #[.bool (ai z),.slice p (aa z) c]] w (.int .i64 s):=by subst hs;exact z3e _ z w (Rz.mk h)
theorem z4f (x y z:Int)(hz:x*y=z)(hx:aa x≤50000)(hy:aa y≤50000)(p1:Option Addr)(c1:Nat)(p2:Option Addr)(c2:Nat)(w:World)(r1:RN w (.slice p1 (aa x) c1) x.natAbs)(r2:RN w (.slice p2 (aa y) c2) y.natAbs) :
 CZ 82 #[.agg #[.bool (ai x),.slice p1 (aa x) c1],.agg #[.bool (ai y),.slice p2 (aa y) c2]] w z:=by subst hz;exact xD (z3V _ _ x y hx hy w (Rz.mk r1) (Rz.mk r2))
theorem z4k (x y z:Int)(hz:x+y=z)(hx:aa x≤50000)(hy:aa y≤50000)(p1:Option Addr)(c1:Nat)(p2:Option Addr)(c2:Nat)(w:World)(r1:RN w (.slice p1 (aa x) c1) x.natAbs)(r2:RN w (.slice p2 (aa y) c2) y.natAbs) :
 CZ 86 #[.agg #[.bool (ai x),.slice p1 (aa x) c1],.agg #[.bool (ai y),.slice p2 (aa y) c2]] w z:=by subst hz;exact xD (z3X _ _ x y hx hy w (Rz.mk r1) (Rz.mk r2))
theorem zl (x z:Int)(hz : -x=z)(hx:aa x≤1000000)(p1:Option Addr)(c1:Nat)(w:World)(r1:RN w (.slice p1 (aa x) c1) x.natAbs) :
 CZ 90 #[.agg #[.bool (ai x),.slice p1 (aa x) c1]] w z:=by subst hz;exact xD (qV _ x hx w (Rz.mk r1))
end Go.Proofs.YtlgkolkcokaefaaGreatDoor
open Go.Lib (hid)
namespace Go.Proofs.YtlgkolkcokaefaaGreatDoor
open Go.RowKit Go.Gb
theorem z4g (k:Int)(n:Nat)(hk:(n:Int)=k)(h0:0≤k)(h1:k≤1000000)(w:World) :
 CZ 68 #[.int .i64 k] w k:=by
 have hl:ag n≤1000000:=Nat.le_trans (jd (show n≤1000000 by omega)) (by decide +kernel);have C1:=hid (fun W=>qK k n hk (by omega) W);have C2:=hid (fun v W h=>mg false v n k (by rw[if_neg (by simp)];exact hk.symm) hl W h);have d0:decide (k<0)=false:=decide_eq_false (by omega);have e0:¬ k<0:=by omega
 clear hl hk;go_enter func68,ntmps68
 go_upto_region 1 with fail
 refine au w [(#[.bool false,.slice none 0 0],51)] rfl ?_;rintro W0 ⟨k1,hb⟩;have HB0:=hid (show Below w.heap.size w W0 from hb);have K1:=hid k1;clear k1 hb;go_wp2_with fail
 with_reducible refine(C1.out _).mono ?_
 rintro e W1 ⟨p_1,c_1,rfl,u00,hb⟩;have K1:=hid (K1.out.below hb);have HB1:=hbt HB0 hb;have RN1:=hid u00;clear hb u00;go_wp2_with fail
 with_reducible refine(C2.out _ _ RN1.out).mono ?_
 rintro e W2 ⟨p_2,c_2,rfl,u05,hb⟩;have K1:=hid (K1.out.below hb);have HB2:=hbt HB1 hb;have RK:=hid u05;clear hb u05;obtain ⟨dK10,dK11⟩:=aI K1.out rfl rfl;obtain ⟨fK10,fK11⟩:=dU K1.out;go_wp2;exact bodyPost_ret (v:=.agg #[.bool (ai k),.slice p_2 (aa k) c_2]) (by simp[results,results68,go_sem,dK10,dK11]) rfl ⟨_,_,rfl,(aZ [.bool (ai k),.slice p_2 (aa k) c_2] RK.out K1.out (by simp[bS]) (by simp[bA])),(av (l:=[.bool (ai k),.slice p_2 (aa k) c_2]) (i:=0) (by omega) HB2.out)⟩
open Go.Lib (hid)
theorem wT (v1 v2:Value)(a b q r:Nat)(hq:a / b=q)(hr:a%b=r)(hb:b≠0)(hl:ag a≤50000)(w:World)(h1:RN w v1 a)(h2:RN w v2 b) :
 Calls Tryz.prog 72 #[v1,v2] w fun e w'=>∃ p c p' c',e=.returned (.tuple #[.slice p (ag q) c,.slice p' (ag r) c'])∧RN w' (.slice p (ag q) c) q∧RN w' (.slice p' (ag r) c') r∧Below w.heap.size w w':=by
 subst hq hr;exact z5j v1 v2 a b hb hl w h1 h2
theorem zu {w:World}{p:Option Addr}{n c g:Nat}(h:RN w (.slice p n c) g)(hg:(ae g).length=1):∃ b o,p=some ⟨b,o,none⟩∧n=1∧w.cell? ⟨b,o,none⟩=some (.int .u32 (g:Int)):=by
 rcases h with⟨e,h⟩|⟨b,o,c',e,h2,h3,h4,h5⟩
 · rw[h]at hg;cases hg
 · injection e with e1 e2 e3
   refine⟨b,o,e1,by omega,?_⟩;have h6:=h5 0 (by omega);have hv:=aB g
   have hd:ae g=[(ae g).getD 0 0]:=by
    match hk:ae g,hg with
    | [x],_=>rfl
   rw[hd]at hv;have e0:(ae g).getD 0 0=g:=by simpa [aj] using hv
   rw[e0]at h6;exact h6
theorem xM (z:Int)(d:Nat)(hz:aa z≤50000)(hd:ag d≤50000)(p1:Option Addr)(c1:Nat)(s1:Option Addr)(d1:Nat)(hg:Nat.gcd z.natAbs d=1)(w:World)(r1:RN w (.slice p1 (aa z) c1) z.natAbs)(t1:RN w (.slice s1 (ag d) d1) d) :
 Calls Tryz.prog 81 #[.agg #[.bool (ai z),.slice p1 (aa z) c1],.slice s1 (ag d) d1] w fun e w'=>∃ p c s e1,e=.returned (.agg #[.bool (ai z),.slice p (aa z) c,.slice s (ag d) e1])∧RN w' (.slice p (aa z) c) z.natAbs∧RN w' (.slice s (ag d) e1) d∧Below w.heap.size w w':=by
 have C1:=hid (show ∀ v1 v2 W,RN W v1 z.natAbs→RN W v2 d→Calls Tryz.prog 51 #[v1,v2] W fun e w'=>∃ b o c,e=.returned (.slice (some ⟨b,o,none⟩) 1 c)∧w'.cell? ⟨b,o,none⟩=some (.int .u32 1)∧Below W.heap.size W w' from fun v1 v2 W h1 h2=>by
  refine(nQ v1 v2 z.natAbs d 1 hg hz hd W h1 h2).mono ?_;rintro e w' ⟨p,c,rfl,hr,hb⟩;obtain⟨b,o,rfl,_,h⟩:=zu hr qm;rw[qm]
  exact⟨b,o,c,rfl,h,hb⟩)
 clear hg hz hd;have R1:=hid r1;have T1:=hid t1;clear r1 t1;go_enter func81,ntmps81
 go_upto_region 1 with fail
 refine au w [(#[.bool (ai z),.slice p1 (aa z) c1],51),(#[.bool false,.slice none 0 0,.slice none 0 0],53)] rfl ?_;rintro W0 ⟨k1,k2,hb⟩;have HB0:=hid (show Below w.heap.size w W0 from hb);obtain ⟨R1,T1,K1,K2⟩:=aH (R1.out.below HB0.out) (T1.out.below HB0.out) k1 k2;clear k1 k2 hb;have dK11:=K1.out.cell (i:=1) rfl;go_wp2_with fail
 with_reducible refine(C1.out _ _ _ R1.out T1.out).mono ?_
 rintro e W1 ⟨b_1,o_1,c_1,rfl,u00,hb⟩;clear dK11;obtain ⟨K1,K2,R1,T1⟩:=aH (K1.out.below hb) (K2.out.below hb) (R1.out.below hb) (T1.out.below hb);have HB1:=hbt HB0 hb;have XC:=hid u00;clear hb u00;have dxc:=XC.out;obtain ⟨dK10,dK11⟩:=aI K1.out rfl rfl;obtain ⟨dK20,dK21,dK22⟩:=ax K2.out rfl rfl rfl;obtain ⟨fK20,fK21,fK22⟩:=aT K2.out;go_wp2;exact bodyPost_ret (v:=.agg #[.bool (ai z),.slice p1 (aa z) c1,.slice s1 (ag d) d1]) (by simp[results,results81,go_sem,dK20,dK21,dK22]) rfl ⟨_,_,_,_,rfl,(aZ [.bool (ai z),.slice p1 (aa z) c1,.slice s1 (ag d) d1] R1.out K2.out (by simp[bS]) (by simp[bA])),(aZ [.bool (ai z),.slice p1 (aa z) c1,.slice s1 (ag d) d1] T1.out K2.out (by simp[bS]) (by simp[bA])),(av (l:=[.bool (ai z),.slice p1 (aa z) c1,.slice s1 (ag d) d1]) (i:=0) (by omega) HB1.out)⟩
theorem ul (z:Int)(d:Nat)(hz:aa z≤50000)(hd:ag d≤50000)(p1:Option Addr)(c1:Nat)(s1:Option Addr)(d1:Nat)(g a a1 b b1:Nat)(y:Int)(hg:Nat.gcd z.natAbs d=g)(g0:g≠0)(g1:g≠1)(gl:ag g=1)(ha:z.natAbs / g=a)(ha1:z.natAbs%g=a1)(hb:d / g=b)(hb1:d%g=b1)(hy:y=if ai z then -(a:Int) else (a:Int))(w:World)(r1:RN w (.slice p1 (aa z) c1) z.natAbs)(t1:RN w (.slice s1 (ag d) d1) d) :
 Calls Tryz.prog 81 #[.agg #[.bool (ai z),.slice p1 (aa z) c1],.slice s1 (ag d) d1] w fun e w'=>∃ p c s e1,e=.returned (.agg #[.bool (ai y),.slice p (aa y) c,.slice s (ag b) e1])∧RN w' (.slice p (aa y) c) y.natAbs∧RN w' (.slice s (ag b) e1) b∧Below w.heap.size w w':=by
 have C1:=hid (show ∀ v1 v2 W,RN W v1 z.natAbs→RN W v2 d→Calls Tryz.prog 51 #[v1,v2] W fun e w'=>∃ b o c,e=.returned (.slice (some ⟨b,o,none⟩) 1 c)∧w'.cell? ⟨b,o,none⟩=some (.int .u32 (g:Int))∧RN w' (.slice (some ⟨b,o,none⟩) 1 c) g∧Below W.heap.size W w' from fun v1 v2 W h1 h2=>by
  refine(nQ v1 v2 z.natAbs d g hg hz hd W h1 h2).mono ?_;rintro e w' ⟨p,c,rfl,hr,hb⟩;obtain⟨b,o,rfl,_,h⟩:=zu hr gl;rw[gl]at hr ⊢
  exact⟨b,o,c,rfl,h,hr,hb⟩)
 have C2:=hid (fun v1 v2 W h1 h2=>wT v1 v2 z.natAbs g a a1 ha ha1 g0 hz W h1 h2);have C3:=hid (fun v1 v2 W h1 h2=>wT v1 v2 d g b b1 hb hb1 g0 hd W h1 h2);have C4:=hid (fun v W h=>mg (ai z) v a y hy (by rw[← ha];exact Nat.le_trans (jd (Nat.div_le_self _ _)) (Nat.le_trans hz (by decide))) W h);have g1':((g:Int)==1)=false:=by rw[beq_eq_false_iff_ne];omega
 have g2':¬ (g:Int)=1:=by omega
 have g3':¬ g=1:=g1;clear gl g1 hg hz hd g0 ha ha1 hb hb1 hy;have R1:=hid r1;have T1:=hid t1;clear r1 t1;go_enter func81,ntmps81
 go_upto_region 1 with fail
 refine au w [(#[.bool (ai z),.slice p1 (aa z) c1],51),(#[.bool false,.slice none 0 0,.slice none 0 0],53)] rfl ?_;rintro W0 ⟨k1,k2,hb⟩;have HB0:=hid (show Below w.heap.size w W0 from hb);obtain ⟨R1,T1,K1,K2⟩:=aH (R1.out.below HB0.out) (T1.out.below HB0.out) k1 k2;clear k1 k2 hb;have dK11:=K1.out.cell (i:=1) rfl;go_wp2_with fail
 with_reducible refine(C1.out _ _ _ R1.out T1.out).mono ?_
 rintro e W1 ⟨b_1,o_1,c_1,rfl,u00,u0d,hb⟩;clear dK11;obtain ⟨K1,K2,R1,T1⟩:=aH (K1.out.below hb) (K2.out.below hb) (R1.out.below hb) (T1.out.below hb);have HB1:=hbt HB0 hb;have XC:=hid u00;have RG:=hid u0d;clear hb u00 u0d;have dxc:=XC.out;have dK11:=K1.out.cell (i:=1) rfl;go_wp2_with fail
 with_reducible refine(C2.out _ _ _ R1.out RG.out).mono ?_
 rintro e W2 ⟨u0h,u0i,u0j,u0k,rfl,u05,u06,hb⟩;clear dK11;obtain ⟨K1,K2,T1,RG⟩:=aH (K1.out.below hb) (K2.out.below hb) (T1.out.below hb) (RG.out.below hb);have HB2:=hbt HB1 hb;have RA:=hid u05;have RA1:=hid u06;clear hb u05 u06;go_wp2_with fail
 with_reducible refine(C3.out _ _ _ T1.out RG.out).mono ?_
 rintro e W3 ⟨u01,u02,u0l,u0m,rfl,u07,u08,hb⟩;obtain ⟨K1,K2,RA⟩:=ah (K1.out.below hb) (K2.out.below hb) (RA.out.below hb);have HB3:=hbt HB2 hb;have RB:=hid u07;have RB1:=hid u08;clear hb u07 u08;have dK10:=K1.out.cell (i:=0) rfl;go_wp2_with fail
 with_reducible refine(C4.out _ _ RA.out).mono ?_
 rintro e W4 ⟨p_4,c_4,rfl,u09,hb⟩;clear dK10;have K2:=hid (K2.out.below hb);have RB:=hid (RB.out.below hb);have HB4:=hbt HB3 hb;have RY:=hid u09;clear hb u09;obtain ⟨dK20,dK21,dK22⟩:=ax K2.out rfl rfl rfl;obtain ⟨fK20,fK21,fK22⟩:=aT K2.out;go_wp2;exact bodyPost_ret (v:=.agg #[.bool (ai y),.slice p_4 (aa y) c_4,.slice u01 (ag b) u02]) (by simp[results,results81,go_sem,dK20,dK21,dK22]) rfl ⟨_,_,_,_,rfl,(aZ [.bool (ai y),.slice p_4 (aa y) c_4,.slice u01 (ag b) u02] RY.out K2.out (by simp[bS]) (by simp[bA])),(aZ [.bool (ai y),.slice p_4 (aa y) c_4,.slice u01 (ag b) u02] RB.out K2.out (by simp[bS]) (by simp[bA])),(av (l:=[.bool (ai y),.slice p_4 (aa y) c_4,.slice u01 (ag b) u02]) (i:=0) (by omega) HB4.out)⟩
theorem um (z:Int)(d:Nat)(hz:aa z≤50000)(hd:ag d≤50000)(p1:Option Addr)(c1:Nat)(s1:Option Addr)(d1:Nat)(g a a1 b b1:Nat)(y:Int)(hg:Nat.gcd z.natAbs d=g)(g0:g≠0)(gl:ag g≠1)(ha:z.natAbs / g=a)(ha1:z.natAbs%g=a1)(hb:d / g=b)(hb1:d%g=b1)(hy:y=if ai z then -(a:Int) else (a:Int))(w:World)(r1:RN w (.slice p1 (aa z) c1) z.natAbs)(t1:RN w (.slice s1 (ag d) d1) d) :
 Calls Tryz.prog 81 #[.agg #[.bool (ai z),.slice p1 (aa z) c1],.slice s1 (ag d) d1] w fun e w'=>∃ p c s e1,e=.returned (.agg #[.bool (ai y),.slice p (aa y) c,.slice s (ag b) e1])∧RN w' (.slice p (aa y) c) y.natAbs∧RN w' (.slice s (ag b) e1) b∧Below w.heap.size w w':=by
 have C1:=hid (fun v1 v2 W h1 h2=>nQ v1 v2 z.natAbs d g hg hz hd W h1 h2);have C2:=hid (fun v1 v2 W h1 h2=>wT v1 v2 z.natAbs g a a1 ha ha1 g0 hz W h1 h2);have C3:=hid (fun v1 v2 W h1 h2=>wT v1 v2 d g b b1 hb hb1 g0 hd W h1 h2);have C4:=hid (fun v W h=>mg (ai z) v a y hy (by rw[← ha];exact Nat.le_trans (jd (Nat.div_le_self _ _)) (Nat.le_trans hz (by decide))) W h);have g1':((ag g:Int)==1)=false:=by rw[beq_eq_false_iff_ne];omega
 have g2':¬ (ag g:Int)=1:=by omega
 have g3':¬ ag g=1:=gl;clear gl hg hz hd g0 ha ha1 hb hb1 hy;have R1:=hid r1;have T1:=hid t1;clear r1 t1;go_enter func81,ntmps81
 go_upto_region 1 with fail
 refine au w [(#[.bool (ai z),.slice p1 (aa z) c1],51),(#[.bool false,.slice none 0 0,.slice none 0 0],53)] rfl ?_;rintro W0 ⟨k1,k2,hb⟩;have HB0:=hid (show Below w.heap.size w W0 from hb);obtain ⟨R1,T1,K1,K2⟩:=aH (R1.out.below HB0.out) (T1.out.below HB0.out) k1 k2;clear k1 k2 hb;have dK11:=K1.out.cell (i:=1) rfl;go_wp2_with fail
 with_reducible refine(C1.out _ _ _ R1.out T1.out).mono ?_
 rintro e W1 ⟨p_1,c_1,rfl,u00,hb⟩;clear dK11;obtain ⟨K1,K2,R1,T1⟩:=aH (K1.out.below hb) (K2.out.below hb) (R1.out.below hb) (T1.out.below hb);have HB1:=hbt HB0 hb;have RG:=hid u00;clear hb u00;have dK11:=K1.out.cell (i:=1) rfl;go_wp2_with fail
 with_reducible refine(C2.out _ _ _ R1.out RG.out).mono ?_
 rintro e W2 ⟨u0h,u0i,u0j,u0k,rfl,u05,u06,hb⟩;clear dK11;obtain ⟨K1,K2,T1,RG⟩:=aH (K1.out.below hb) (K2.out.below hb) (T1.out.below hb) (RG.out.below hb);have HB2:=hbt HB1 hb;have RA:=hid u05;have RA1:=hid u06;clear hb u05 u06;go_wp2_with fail
 with_reducible refine(C3.out _ _ _ T1.out RG.out).mono ?_
 rintro e W3 ⟨u01,u02,u0l,u0m,rfl,u07,u08,hb⟩;obtain ⟨K1,K2,RA⟩:=ah (K1.out.below hb) (K2.out.below hb) (RA.out.below hb);have HB3:=hbt HB2 hb;have RB:=hid u07;have RB1:=hid u08;clear hb u07 u08;have dK10:=K1.out.cell (i:=0) rfl;go_wp2_with fail
 with_reducible refine(C4.out _ _ RA.out).mono ?_
 rintro e W4 ⟨p_4,c_4,rfl,u09,hb⟩;clear dK10;have K2:=hid (K2.out.below hb);have RB:=hid (RB.out.below hb);have HB4:=hbt HB3 hb;have RY:=hid u09;clear hb u09;obtain ⟨dK20,dK21,dK22⟩:=ax K2.out rfl rfl rfl;obtain ⟨fK20,fK21,fK22⟩:=aT K2.out;go_wp2;exact bodyPost_ret (v:=.agg #[.bool (ai y),.slice p_4 (aa y) c_4,.slice u01 (ag b) u02]) (by simp[results,results81,go_sem,dK20,dK21,dK22]) rfl ⟨_,_,_,_,rfl,(aZ [.bool (ai y),.slice p_4 (aa y) c_4,.slice u01 (ag b) u02] RY.out K2.out (by simp[bS]) (by simp[bA])),(aZ [.bool (ai y),.slice p_4 (aa y) c_4,.slice u01 (ag b) u02] RB.out K2.out (by simp[bS]) (by simp[bA])),(av (l:=[.bool (ai y),.slice p_4 (aa y) c_4,.slice u01 (ag b) u02]) (i:=0) (by omega) HB4.out)⟩
