/- texts -/
import Derived.Test.YtcchkjpdchcjpaaGreatDoorZd
namespace Go.Proofs.YtcchkjpdchcjpaaGreatDoor
open Go.RowKit Go.Gb
theorem z3h (a b:Nat)(h:(aa a).length≤50000):(aa (a-b)).length≤1000000:=by have:=aO (Nat.sub_le a b);omega
theorem z2W {f:FuncId}{args:Array Value}{w:World}{z:Int}(h:Calls Tryz.prog f args w fun e w'=>∃ p c,e=.returned (.agg #[.bool (av z),.slice p (ag z) c])∧RN w' (.slice p (ag z) c) z.natAbs∧Below w.heap.size w w') :
 Calls Tryz.prog f args w fun e w'=>∃ u,e=.returned u∧Rz w' u z∧Below w.heap.size w w' :=
 h.mono fun _ _ ⟨_,_,e,r,hb⟩=>⟨_,e,Rz.mk r,hb⟩
theorem z08 {x y:Int}(h:(av x==av y)=true):x+y=(if av x=true then -((x.natAbs+y.natAbs:Nat):Int) else ((x.natAbs+y.natAbs:Nat):Int)):=by
 unfold av at *
 by_cases hx:x<0<;>by_cases hy:y<0<;>simp[hx,hy]at h ⊢ <;> omega
theorem pg {x y:Int}(h:(av x==av y)=false):(y.natAbs≤x.natAbs→x+y=(if av x=true then -((x.natAbs-y.natAbs:Nat):Int) else ((x.natAbs-y.natAbs:Nat):Int)))∧(x.natAbs<y.natAbs→x+y=(if av y=true then -((y.natAbs-x.natAbs:Nat):Int) else ((y.natAbs-x.natAbs:Nat):Int))):=by
 unfold av at *
 by_cases hx:x<0<;>by_cases hy:y<0<;>simp[hx,hy]at h ⊢ <;> constructor<;>intro h2<;>omega
theorem z5h (u1 u2:Value)(x y:Int)(hx:(aa x.natAbs).length≤50000)(hy:(aa y.natAbs).length≤50000)(w:World)(h1:Rz w u1 x)(h2:Rz w u2 y) :
 Calls Tryz.prog 107 #[u1,u2] w fun e w'=>∃ u,e=.returned u∧Rz w' u (x+y)∧Below w.heap.size w w':=by
 obtain⟨p1,c1,rfl,r1⟩:=h1.sh;obtain⟨p2,c2,rfl,r2⟩:=h2.sh;have hsl:=jy hx hy;have hx':ai x.natAbs≤50000:=hx;have hy':ai y.natAbs≤50000:=hy;have hsl':ai (x.natAbs+y.natAbs)≤50001:=hsl;have hd1:ai (x.natAbs-y.natAbs)≤1000000:=z3h _ _ hx;have hd2:ai (y.natAbs-x.natAbs)≤1000000:=z3h _ _ hy;refine z2W ?_
 cases hs:(av x==av y) with
 | true=>exact yT x y (x+y) (x.natAbs+y.natAbs) hs p1 c1 p2 c2 w (fun p1 c1 p2 c2 W h1 h2=>z5J _ _ _ _ (by omega) (by omega) W h1 h2) (fun s d W h=>oG _ _ _ _ (z08 hs) (by omega) W h) r1 r2
 | false =>
   rcases Nat.lt_or_ge x.natAbs y.natAbs with h|h
   · exact z2H x y (x+y) (y.natAbs-x.natAbs) (-1) (by decide) hs p1 c1 p2 c2 w (fun p1 c1 p2 c2 W h1 h2=>by have k:=cCmp (.slice p1 (ag x) c1) (.slice p2 (ag y) c2) x.natAbs y.natAbs (by omega) W h1 h2;rwa [fV h]at k) (fun p1 c1 p2 c2 W h1 h2=>z3i _ _ _ _ (by omega) (by omega) W h1 h2) (fun s d W h'=>oG _ _ _ _ ((pg hs).2 h) hd2 W h') r1 r2
   · exact z2I x y (x+y) (x.natAbs-y.natAbs) (cmpN x.natAbs y.natAbs) (by unfold cmpN;split<;>(try split)<;>omega) hs p1 c1 p2 c2 w (fun p1 c1 p2 c2 W h1 h2=>cCmp _ _ _ _ (by omega) W h1 h2) (fun p1 c1 p2 c2 W h1 h2=>z3i _ _ _ _ h (by omega) W h1 h2) (fun s d W h'=>oG _ _ _ _ ((pg hs).1 h) hd1 W h') r1 r2
theorem xN (x y:Int):x*y=(if (decide (x<0) != decide (y<0)) then -((x.natAbs*y.natAbs:Nat):Int) else ((x.natAbs*y.natAbs:Nat):Int)):=by
 rw[Int.natCast_mul];by_cases hx:x<0
 · by_cases hy:y<0
   · have e1:(x.natAbs:Int) = -x:=by omega
     have e2:(y.natAbs:Int) = -y:=by omega
     rw[e1,e2];simp[hx,hy,Int.neg_mul,Int.mul_neg]
   · have e1:(x.natAbs:Int) = -x:=by omega
     have e2:(y.natAbs:Int)=y:=by omega
     rw[e1,e2];simp[hx,hy,Int.neg_mul]
 · by_cases hy:y<0
   · have e1:(x.natAbs:Int)=x:=by omega
     have e2:(y.natAbs:Int) = -y:=by omega
     rw[e1,e2];simp[hx,hy,Int.mul_neg]
   · have e1:(x.natAbs:Int)=x:=by omega
     have e2:(y.natAbs:Int)=y:=by omega
     rw[e1,e2];simp[hx,hy]
theorem z4o (u1 u2:Value)(x y:Int)(hx:(aa x.natAbs).length≤50000)(hy:(aa y.natAbs).length≤50000)(w:World)(h1:Rz w u1 x)(h2:Rz w u2 y) :
 Calls Tryz.prog 52 #[u1,u2] w fun e w'=>∃ u,e=.returned u∧Rz w' u (x*y)∧Below w.heap.size w w':=by
 obtain⟨p1,c1,rfl,r1⟩:=h1.sh;obtain⟨p2,c2,rfl,r2⟩:=h2.sh;have hml:=iA x.natAbs y.natAbs;have hml':ai (x.natAbs*y.natAbs)≤ai x.natAbs+ai y.natAbs:=hml;have hx':ai x.natAbs≤50000:=hx;have hy':ai y.natAbs≤50000:=hy;exact z2W (yS x y (x*y) (x.natAbs*y.natAbs) p1 c1 p2 c2 w (fun p1 c1 p2 c2 W h1 h2=>xG _ _ _ _ (by omega) (by omega) W h1 h2) (fun s d W h=>oG _ _ _ _ (xN x y) (by omega) W h) r1 r2)
theorem wO {w:World}{v:Value}{xs:List Nat}{g:Nat}{b:Bool}{q:Option Addr}{l c:Nat}{T:TypeId}{fz:Nat × Nat}(hg:w.heap[g]? = some (.cells #[.bool b,.slice q l c] T fz))(h:Rd .u32 w v xs)(i:Nat)(u:Value):Rd .u32 (w.setCell ⟨g,i,none⟩ u) v xs:=by
 rcases h with h|⟨b',o,c',h1,h2,h3,h4,h5⟩
 · exact Or.inl h
 · refine Or.inr ⟨b',o,c',h1,h2,h3,by simpa [World.setCell] using h4,fun j hj=>?_⟩
   have h6:=h5 j hj
   have hne:b'≠g:=by
    intro e;subst e;simp only[World.cell?,hg]at h6
    match hk:o+j with
    | 0=>rw[hk]at h6;simp at h6
    | 1=>rw[hk]at h6;simp at h6
    | n+2=>rw[hk]at h6;simp at h6
   exact(zt hne).trans h6
set_option maxRecDepth 100000
set_option maxHeartbeats 20000000
open Go.Lib (hid)
theorem tJ {W W':World}{g:Nat}{o:Obj}(h:W.heap[g]? = some o)(hb:Below W.heap.size W W'):W'.heap[g]? = some o:=by
 rw[hb.block g (Array.getElem?_eq_some_iff.1 h).1];exact h
theorem heap_set {W:World}{g i:Nat}{b b':Bool}{q:Option Addr}{l c:Nat}{T:TypeId}{fz:Nat × Nat}(h:W.heap[g]? = some (.cells #[.bool b,.slice q l c] T fz))(hi:i=0):(W.setCell ⟨g,i,none⟩ (.bool b')).heap[g]? = some (.cells #[.bool b',.slice q l c] T fz):=by
 subst hi;simp only[World.setCell,Array.getElem?_modify,h];simp
theorem yU (ba bb ob r:Bool)(p1:Option Addr)(l1 c1:Nat)(p2:Option Addr)(l2 c2:Nat)(m n L:Nat)(w:World)
 (hO:∀ W,Below w.heap.size w W→Calls Tryz.prog 108 #[.agg #[.bool bb,.slice p2 l2 c2]] W fun e w'=>∃ p c,e=.returned (.agg #[.bool ob,.slice p l2 c])∧Rd .u32 w' (.slice p l2 c) (aa m)∧Below W.heap.size W w')
 (hQ:∀ W p c,Below w.heap.size w W→Rd .u32 W (.slice p l2 c) (aa m)→Calls Tryz.prog 107 #[.agg #[.bool ba,.slice p1 l1 c1],.agg #[.bool ob,.slice p l2 c]] W fun e w'=>∃ p' c',e=.returned (.agg #[.bool r,.slice p' L c'])∧Rd .u32 w' (.slice p' L c') (aa n)∧Below W.heap.size W w') :
 Calls Tryz.prog 85 #[.agg #[.bool ba,.slice p1 l1 c1],.agg #[.bool bb,.slice p2 l2 c2]] w fun e w'=>∃ v,e=.returned (.agg #[.bool r,v])∧Rd .u32 w' v (aa n)∧Below w.heap.size w w':=by
 have HO:=hid hO;have HQ:=hid hQ;have HW:=hid (((((Below.refl w.heap.size w).alloc (Nat.le_refl _) (.cells #[.bool ba,.slice p1 l1 c1] 47)).alloc (by simp) (.cells #[.bool bb,.slice p2 l2 c2] 47)).alloc (by simp;omega) (.cells #[.bool false,.slice none 0 0] 47)))
 have AH:=hid (show(((w.alloc (.cells #[.bool ba,.slice p1 l1 c1] 47)).alloc (.cells #[.bool bb,.slice p2 l2 c2] 47)).alloc (.cells #[.bool false,.slice none 0 0] 47)).heap[w.heap.size+1+1]? = some (.cells #[.bool false,.slice none 0 0] 47 (0,0)) by
  rw[show w.heap.size+1+1=((w.alloc (.cells #[.bool ba,.slice p1 l1 c1] 47)).alloc (.cells #[.bool bb,.slice p2 l2 c2] 47)).heap.size by simp];exact heap_alloc_new _ _)
 have A00:=hid (show(((w.alloc (.cells #[.bool ba,.slice p1 l1 c1] 47)).alloc (.cells #[.bool bb,.slice p2 l2 c2] 47)).alloc (.cells #[.bool false,.slice none 0 0] 47)).cell? ⟨w.heap.size,0,none⟩=some (.bool ba) by rw[fu (by simp;omega),fu (by simp),oL rfl];rfl);have A01:=hid (show(((w.alloc (.cells #[.bool ba,.slice p1 l1 c1] 47)).alloc (.cells #[.bool bb,.slice p2 l2 c2] 47)).alloc (.cells #[.bool false,.slice none 0 0] 47)).cell? ⟨w.heap.size,1,none⟩=some (.slice p1 l1 c1) by rw[fu (by simp;omega),fu (by simp),oL rfl];rfl);have A10:=hid (show(((w.alloc (.cells #[.bool ba,.slice p1 l1 c1] 47)).alloc (.cells #[.bool bb,.slice p2 l2 c2] 47)).alloc (.cells #[.bool false,.slice none 0 0] 47)).cell? ⟨w.heap.size+1,0,none⟩=some (.bool bb) by rw[fu (by simp),oL (by simp)];rfl);have A11:=hid (show(((w.alloc (.cells #[.bool ba,.slice p1 l1 c1] 47)).alloc (.cells #[.bool bb,.slice p2 l2 c2] 47)).alloc (.cells #[.bool false,.slice none 0 0] 47)).cell? ⟨w.heap.size+1,1,none⟩=some (.slice p2 l2 c2) by rw[fu (by simp),oL (by simp)];rfl);have A20:=hid (show(((w.alloc (.cells #[.bool ba,.slice p1 l1 c1] 47)).alloc (.cells #[.bool bb,.slice p2 l2 c2] 47)).alloc (.cells #[.bool false,.slice none 0 0] 47)).cell? ⟨w.heap.size+1+1,0,none⟩=some (.bool false) by rw[oL (by simp)];rfl);have A21:=hid (show(((w.alloc (.cells #[.bool ba,.slice p1 l1 c1] 47)).alloc (.cells #[.bool bb,.slice p2 l2 c2] 47)).alloc (.cells #[.bool false,.slice none 0 0] 47)).cell? ⟨w.heap.size+1+1,1,none⟩=some (.slice none 0 0) by rw[oL (by simp)];rfl);have F0:=hid (show(((w.alloc (.cells #[.bool ba,.slice p1 l1 c1] 47)).alloc (.cells #[.bool bb,.slice p2 l2 c2] 47)).alloc (.cells #[.bool false,.slice none 0 0] 47)).frozen? ⟨w.heap.size+1+1,0,none⟩=false by rw[z2O (by simp)]);have F1:=hid (show(((w.alloc (.cells #[.bool ba,.slice p1 l1 c1] 47)).alloc (.cells #[.bool bb,.slice p2 l2 c2] 47)).alloc (.cells #[.bool false,.slice none 0 0] 47)).frozen? ⟨w.heap.size+1+1,1,none⟩=false by rw[z2O (by simp)]);clear hO hQ;go_enter Tryz.func85,Tryz.ntmps85
 go_wp2
 go_region_held3 (fun w'=>w'.cell? ⟨w.heap.size,0,none⟩=some (.bool ba)∧w'.cell? ⟨w.heap.size,1,none⟩=some (.slice p1 l1 c1)∧w'.cell? ⟨w.heap.size+1,0,none⟩=some (.bool bb)∧w'.cell? ⟨w.heap.size+1,1,none⟩=some (.slice p2 l2 c2)) (first|((try go_split_ands);refine⟨?_,?_,?_,?_⟩<;>(first|(with_reducible assumption)|((repeat (first|rw[mU]|rw[fu (by first|assumption|omega|(simp;done)|(simp;omega))]|rw[zt (by omega)]));first|(with_reducible assumption)|(simp;done))))|(go_keep;done))
  (first|(go_at_call 108;refine(HO.o _ ?bd).mono ?_;(case bd=>first|exact HW.o|exact HW.o.drew);rintro e w1 ⟨po,co,rfl,ro,hb1⟩;obtain⟨hc1,hf1⟩:=fG hb1;have hs1:=hb1.size;(try simp at hs1);have q10:w.heap.size<w1.heap.size:=(by omega);have q11:w.heap.size+1<w1.heap.size:=(by omega);have q12:w.heap.size+1+1<w1.heap.size:=(by omega);have s100:w1.cell? ⟨w.heap.size,0,none⟩=some (.bool ba):=(by rw[hc1 _ _ (by first|assumption|omega|(simp;done)|(simp;omega))];first|(with_reducible assumption)|exact A00.o);have s101:w1.cell? ⟨w.heap.size,1,none⟩=some (.slice p1 l1 c1):=(by rw[hc1 _ _ (by first|assumption|omega|(simp;done)|(simp;omega))];first|(with_reducible assumption)|exact A01.o);have s110:w1.cell? ⟨w.heap.size+1,0,none⟩=some (.bool bb):=(by rw[hc1 _ _ (by first|assumption|omega|(simp;done)|(simp;omega))];first|(with_reducible assumption)|exact A10.o);have s111:w1.cell? ⟨w.heap.size+1,1,none⟩=some (.slice p2 l2 c2):=(by rw[hc1 _ _ (by first|assumption|omega|(simp;done)|(simp;omega))];first|(with_reducible assumption)|exact A11.o);have s120:w1.cell? ⟨w.heap.size+1+1,0,none⟩=some (.bool false):=(by rw[hc1 _ _ (by first|assumption|omega|(simp;done)|(simp;omega))];first|(with_reducible assumption)|exact A20.o);have s121:w1.cell? ⟨w.heap.size+1+1,1,none⟩=some (.slice none 0 0):=(by rw[hc1 _ _ (by first|assumption|omega|(simp;done)|(simp;omega))];first|(with_reducible assumption)|exact A21.o);have f10:w1.frozen? ⟨w.heap.size+1+1,0,none⟩=false:=(by rw[hf1 _ _ (by first|assumption|omega|(simp;done)|(simp;omega))];first|(with_reducible assumption)|exact F0.o);have f11:w1.frozen? ⟨w.heap.size+1+1,1,none⟩=false:=(by rw[hf1 _ _ (by first|assumption|omega|(simp;done)|(simp;omega))];first|(with_reducible assumption)|exact F1.o);have u6:=hid (show Below w.heap.size w w1 from Below.trans HW.o (by first|exact hb1.mono (by first|omega|(simp;omega)|simp)|exact Below.trans (Below.drew (Below.refl _ _)) (hb1.mono (by first|omega|(simp;omega)|simp))));have RO:=hid ro;have hg1:=hid (show w1.heap[w.heap.size+1+1]? = some (.cells #[.bool false,.slice none 0 0] 47 (0,0)) from(by refine tJ ?_ hb1;exact AH.o)))|(go_at_call 107;refine(HQ.o w1 po co u6.o RO.o).mono ?_;rintro e w2 ⟨pv,cv,rfl,rv,hb2⟩;obtain⟨hc2,hf2⟩:=fG hb2;have hs2:=hb2.size;(try simp at hs2);have q20:w.heap.size<w2.heap.size:=(by omega);have q21:w.heap.size+1<w2.heap.size:=(by omega);have q22:w.heap.size+1+1<w2.heap.size:=(by omega);have s200:w2.cell? ⟨w.heap.size,0,none⟩=some (.bool ba):=(by rw[hc2 _ _ (by first|assumption|omega|(simp;done)|(simp;omega))];first|(with_reducible assumption)|exact A00.o);have s201:w2.cell? ⟨w.heap.size,1,none⟩=some (.slice p1 l1 c1):=(by rw[hc2 _ _ (by first|assumption|omega|(simp;done)|(simp;omega))];first|(with_reducible assumption)|exact A01.o);have s210:w2.cell? ⟨w.heap.size+1,0,none⟩=some (.bool bb):=(by rw[hc2 _ _ (by first|assumption|omega|(simp;done)|(simp;omega))];first|(with_reducible assumption)|exact A10.o);have s211:w2.cell? ⟨w.heap.size+1,1,none⟩=some (.slice p2 l2 c2):=(by rw[hc2 _ _ (by first|assumption|omega|(simp;done)|(simp;omega))];first|(with_reducible assumption)|exact A11.o);have s220:w2.cell? ⟨w.heap.size+1+1,0,none⟩=some (.bool false):=(by rw[hc2 _ _ (by first|assumption|omega|(simp;done)|(simp;omega))];first|(with_reducible assumption)|exact A20.o);have s221:w2.cell? ⟨w.heap.size+1+1,1,none⟩=some (.slice none 0 0):=(by rw[hc2 _ _ (by first|assumption|omega|(simp;done)|(simp;omega))];first|(with_reducible assumption)|exact A21.o);have f20:w2.frozen? ⟨w.heap.size+1+1,0,none⟩=false:=(by rw[hf2 _ _ (by first|assumption|omega|(simp;done)|(simp;omega))];first|(with_reducible assumption)|exact F0.o);have f21:w2.frozen? ⟨w.heap.size+1+1,1,none⟩=false:=(by rw[hf2 _ _ (by first|assumption|omega|(simp;done)|(simp;omega))];first|(with_reducible assumption)|exact F1.o);have hg2:=hid (tJ hg1.o hb2))|fail)
 all_goals
  go_wp2;have HB:Below w.heap.size w w2:=u6.o.trans (hb2.mono u6.o.size);refine bodyPost_ret (v:=.agg #[.bool r,.slice pv L cv]) (by simp[results,Tryz.results85,go_sem,s220,s221]) rfl ⟨_,rfl,?_,?_⟩
  · exact wO (heap_set hg2.o rfl) (wO hg2.o rv 0 _) 1 _
  · exact(HB.setCell (p:=⟨w.heap.size+1+1,0,none⟩) (by show w.heap.size≤w.heap.size+1+1;omega) _).setCell (p:=⟨w.heap.size+1+1,1,none⟩) (by show w.heap.size≤w.heap.size+1+1;omega) _
theorem z4q (u1 u2:Value)(x y:Int)(hx:(aa x.natAbs).length≤50000)(hy:(aa y.natAbs).length≤50000)(w:World)(h1:Rz w u1 x)(h2:Rz w u2 y) :
 Calls Tryz.prog 85 #[u1,u2] w fun e w'=>∃ u,e=.returned u∧Rz w' u (x-y)∧Below w.heap.size w w':=by
 obtain⟨p1,c1,rfl,r1⟩:=jk h1;obtain⟨p2,c2,rfl,r2⟩:=jk h2;refine(yU (decide (x<0)) (decide (y<0)) (decide (-y<0)) (decide (x-y<0)) p1 _ c1 p2 _ c2 (-y).natAbs (x-y).natAbs (aa (x-y).natAbs).length w ?_ ?_).mono ?_
 · intro W hW
   have h:=zl _ y (by omega) W (Rz.below ⟨_,rfl,r2⟩ hW);exact qB rfl (by rw[Int.natAbs_neg]) h
 · intro W p c hW hr
   have h:=z5h (.agg #[.bool (decide (x<0)),.slice p1 (aa x.natAbs).length c1]) (.agg #[.bool (decide (-y<0)),.slice p (aa y.natAbs).length c]) x (-y) hx (by rw[Int.natAbs_neg];exact hy) W (Rz.below ⟨_,rfl,r1⟩ hW) ⟨_,rfl,hr⟩;rw[← Int.sub_eq_add_neg]at h;exact qB rfl rfl h
 · rintro e w' ⟨v,e1,e2,e3⟩
   exact⟨_,e1,⟨_,rfl,e2⟩,e3⟩
end Go.Proofs.YtcchkjpdchcjpaaGreatDoor
set_option maxRecDepth 100000
set_option maxHeartbeats 20000000
namespace Go.Proofs.YtcchkjpdchcjpaaGreatDoor
open Go.RowKit Go.Gb
theorem z2J (ba bb r:Bool)(p1:Option Addr)(l1 c1:Nat)(p2:Option Addr)(l2 c2:Nat)(L:Nat)(s:Int)(w:World)
 (hs:s=if r=true then -1 else if 0<L then 1 else 0)
 (hM:∀ W,Below w.heap.size w W→Calls Tryz.prog 85 #[.agg #[.bool ba,.slice p1 l1 c1],.agg #[.bool bb,.slice p2 l2 c2]] W fun e w'=>∃ p c,e=.returned (.agg #[.bool r,.slice p L c])∧Below W.heap.size W w') :
 CR 56 #[.agg #[.bool ba,.slice p1 l1 c1],.agg #[.bool bb,.slice p2 l2 c2]] w (.int .i64 s):=by
 have HM:=Lib.hid hM;have HS:=Lib.hid (fun W p c=>o6 r p L c s hs W);have HW:=Lib.hid (((Below.refl w.heap.size w).alloc (Nat.le_refl _) (.cells #[.bool ba,.slice p1 l1 c1] 47)).alloc (by simp) (.cells #[.bool bb,.slice p2 l2 c2] 47));clear hM hs;go_enter Tryz.func56,Tryz.ntmps56
 go_wp2_with fail
 refine(HM.o _ HW.o).mono ?_;rintro e w1 ⟨p,c,rfl,hb1⟩;have u6:=Lib.hid (HW.o.trans (hb1.mono HW.o.size));clear hb1;go_wp2_with fail
 refine(HS.o w1 p c).mono ?_;rintro e w2 ⟨rfl,hb⟩;have wu:=Lib.hid (u6.o.trans (hb.mono u6.o.size));clear hb;go_wp2;go_ret
 exact⟨rfl,wu.o⟩
theorem zCmp (u1 u2:Value)(x y:Int)(hx:(aa x.natAbs).length≤50000)(hy:(aa y.natAbs).length≤50000)(w:World)(h1:Rz w u1 x)(h2:Rz w u2 y) :
 CR 56 #[u1,u2] w (.int .i64 (cmpZ x y)):=by
 obtain⟨p1,c1,rfl,r1⟩:=jk h1;obtain⟨p2,c2,rfl,r2⟩:=jk h2;refine z2J _ _ (decide (x-y<0)) p1 _ c1 p2 _ c2 (aa (x-y).natAbs).length (cmpZ x y) w ?_ ?_
 · have hl:=qX (x-y).natAbs
   rcases Int.lt_trichotomy x y with h|h|h
   · rw[nU h,if_pos (decide_eq_true (by omega))]
   · subst h
     rw[rC,Int.sub_self];simp[aR]
   · rw[nV h,if_neg (by rw[decide_eq_false (by omega)];simp),if_pos]
     exact List.length_pos_iff.2 (by rw[bL (by omega)];simp)
 · intro W hW
   exact(qB rfl rfl (z4q _ _ x y hx hy W (Rz.below ⟨_,rfl,r1⟩ hW) (Rz.below ⟨_,rfl,r2⟩ hW))).mono fun e w' ⟨p,c,e1,_,e3⟩=>⟨p,c,e1,e3⟩
theorem uJ (z s:Int)(hs:z.sign=s)(p:Option Addr)(c:Nat)(w:World)(h:RN w (.slice p (ag z) c) z.natAbs) :
 CR 48 #[.agg #[.bool (av z),.slice p (ag z) c]] w (.int .i64 s):=by subst hs;exact z3j _ z w (Rz.mk h)
theorem z4z (x y z:Int)(hz:x*y=z)(hx:ag x≤50000)(hy:ag y≤50000)(p1:Option Addr)(c1:Nat)(p2:Option Addr)(c2:Nat)(w:World)(r1:RN w (.slice p1 (ag x) c1) x.natAbs)(r2:RN w (.slice p2 (ag y) c2) y.natAbs) :
 CZ 52 #[.agg #[.bool (av x),.slice p1 (ag x) c1],.agg #[.bool (av y),.slice p2 (ag y) c2]] w z:=by subst hz;exact z1z (z4o _ _ x y hx hy w (Rz.mk r1) (Rz.mk r2))
end Go.Proofs.YtcchkjpdchcjpaaGreatDoor
open Go.Lib (hid)
namespace Go.Proofs.YtcchkjpdchcjpaaGreatDoor
open Go.RowKit Go.Gb
theorem z4A (k:Int)(n:Nat)(hk:(n:Int)=k)(h0:0≤k)(h1:k≤1000000)(w:World) :
 CZ 54 #[.int .i64 k] w k:=by
 have hl:ai n≤1000000:=Nat.le_trans (kH (show n≤1000000 by omega)) (by decide +kernel);have C1:=hid (fun W=>lL k n hk (by omega) W);have C2:=hid (fun v W h=>oG false v n k (by rw[if_neg (by simp)];exact hk.symm) hl W h);have d0:decide (k<0)=false:=decide_eq_false (by omega);have e0:¬ k<0:=by omega
 clear hl hk;go_enter Tryz.func54,Tryz.ntmps54
 go_upto_region 1 with fail
 refine aA w [(#[.bool false,.slice none 0 0],47)] rfl ?_;rintro W0 ⟨k1,hb⟩;have rM:=hid (show Below w.heap.size w W0 from hb);have K1:=hid k1;clear k1 hb;go_wp2_with fail
 with_reducible refine(C1.o _).mono ?_
 rintro e W1 ⟨ol,oM,rfl,ww,hb⟩;have K1:=hid (K1.o.below hb);have u6:=hbt rM hb;have RN1:=hid ww;clear hb ww;go_wp2_with fail
 with_reducible refine(C2.o _ _ RN1.o).mono ?_
 rintro e W2 ⟨w9,wo,rfl,sw,hb⟩;have K1:=hid (K1.o.below hb);have wu:=hbt u6 hb;have RK:=hid sw;clear hb sw;obtain ⟨rV,pq⟩:=au K1.o rfl rfl;obtain ⟨oV,nk⟩:=dU K1.o;go_wp2;exact bodyPost_ret (v:=.agg #[.bool (av k),.slice w9 (ag k) wo]) (by simp[results,Tryz.results54,go_sem,rV,pq]) rfl ⟨_,_,rfl,(bD [.bool (av k),.slice w9 (ag k) wo] RK.o K1.o (by simp[cB]) (by simp[bH])),(aJ (l:=[.bool (av k),.slice w9 (ag k) wo]) (i:=0) (by omega) wu.o)⟩
theorem xS (w:World) :
 Calls Tryz.prog 54 #[.int .i64 (-1)] w fun e w'=>∃ p c,e=.returned (.agg #[.bool (av (-1)),.slice p (ag (-1)) c])∧RN w' (.slice p (ag (-1)) c) (-1:Int).natAbs∧Below w.heap.size w w':=by
 have C1:=hid (fun W=>lL 1 1 rfl (by decide) W);have C2:=hid (fun v W h=>oG true v 1 (-1) rfl (by rw[mF];decide) W h);go_enter Tryz.func54,Tryz.ntmps54
 go_upto_region 1 with fail
 refine aA w [(#[.bool false,.slice none 0 0],47)] rfl ?_;rintro W0 ⟨k1,hb⟩;have rM:=hid (show Below w.heap.size w W0 from hb);have K1:=hid k1;clear k1 hb;go_wp2_with fail
 with_reducible refine(C1.o _).mono ?_
 rintro e W1 ⟨ol,oM,rfl,ww,hb⟩;have K1:=hid (K1.o.below hb);have u6:=hbt rM hb;have RN1:=hid ww;clear hb ww;go_wp2_with fail
 with_reducible refine(C2.o _ _ RN1.o).mono ?_
 rintro e W2 ⟨w9,wo,rfl,sw,hb⟩;have K1:=hid (K1.o.below hb);have wu:=hbt u6 hb;have RK:=hid sw;clear hb sw;obtain ⟨rV,pq⟩:=au K1.o rfl rfl;obtain ⟨oV,nk⟩:=dU K1.o;go_wp2;exact bodyPost_ret (v:=.agg #[.bool (av (-1)),.slice w9 (ag (-1)) wo]) (by simp[results,Tryz.results54,go_sem,rV,pq]) rfl ⟨_,_,rfl,(bD [.bool (av (-1)),.slice w9 (ag (-1)) wo] RK.o K1.o (by simp[cB]) (by simp[bH])),(aJ (l:=[.bool (av (-1)),.slice w9 (ag (-1)) wo]) (i:=0) (by omega) wu.o)⟩
