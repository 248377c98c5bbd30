/- texts -/
import Derived.Test.YtoaeaiiabelhkaaGreatDoorMz33q
open Go.Proofs.Tryz
namespace Go.Proofs.YtoaeaiiabelhkaaGreatDoor
open Go.RowKit Go.Gb
theorem z4E (a b:Nat)(h:(ae a).length≤50000):(ae (a-b)).length≤1000000:=by have:=aP (Nat.sub_le a b);omega
theorem z4v {f:FuncId}{args:Array Value}{w:World}{z:Int}(h:Calls Tryz.prog f args w fun e w'=>∃ p c,e=.returned (.agg #[.bool (ah z),.slice p (aa z) c])∧RN w' (.slice p (aa z) c) z.natAbs∧Below w.heap.size w w') :
 Calls Tryz.prog f args w fun e w'=>∃ u,e=.returned u∧Rz w' u z∧Below w.heap.size w w' :=
 h.mono fun _ _ ⟨_,_,e,r,hb⟩=>⟨_,e,Rz.mk r,hb⟩
theorem z0Z {x y:Int}(h:(ah x==ah y)=true):x+y=(if ah x=true then -((x.natAbs+y.natAbs:Nat):Int) else ((x.natAbs+y.natAbs:Nat):Int)):=by
 unfold ah at *
 by_cases hx:x<0<;>by_cases hy:y<0<;>simp[hx,hy]at h ⊢ <;> omega
theorem pU {x y:Int}(h:(ah x==ah y)=false):(y.natAbs≤x.natAbs→x+y=(if ah x=true then -((x.natAbs-y.natAbs:Nat):Int) else ((x.natAbs-y.natAbs:Nat):Int)))∧(x.natAbs<y.natAbs→x+y=(if ah y=true then -((y.natAbs-x.natAbs:Nat):Int) else ((y.natAbs-x.natAbs:Nat):Int))):=by
 unfold ah at *
 by_cases hx:x<0<;>by_cases hy:y<0<;>simp[hx,hy]at h ⊢ <;> constructor<;>intro h2<;>omega
theorem z5U (u1 u2:Value)(x y:Int)(hx:(ae x.natAbs).length≤50000)(hy:(ae y.natAbs).length≤50000)(w:World)(h1:Rz w u1 x)(h2:Rz w u2 y) :
 Calls Tryz.prog 93 #[u1,u2] w fun e w'=>∃ u,e=.returned u∧Rz w' u (x+y)∧Below w.heap.size w w':=by
 obtain⟨p1,c1,rfl,r1⟩:=h1.sh;obtain⟨p2,c2,rfl,r2⟩:=h2.sh;have hsl:=iB hx hy;have hx':ag x.natAbs≤50000:=hx;have hy':ag y.natAbs≤50000:=hy;have hsl':ag (x.natAbs+y.natAbs)≤50001:=hsl;have hd1:ag (x.natAbs-y.natAbs)≤1000000:=z4E _ _ hx;have hd2:ag (y.natAbs-x.natAbs)≤1000000:=z4E _ _ hy;refine z4v ?_
 cases hs:(ah x==ah y) with
 | true=>exact z02 x y (x+y) (x.natAbs+y.natAbs) hs p1 c1 p2 c2 w (fun p1 c1 p2 c2 W h1 h2=>z7r _ _ _ _ (by omega) (by omega) W h1 h2) (fun s d W h=>lq _ _ _ _ (z0Z hs) (by omega) W h) r1 r2
 | false =>
   rcases Nat.lt_or_ge x.natAbs y.natAbs with h|h
   · exact z3V x y (x+y) (y.natAbs-x.natAbs) (-1) (by decide) hs p1 c1 p2 c2 w (fun p1 c1 p2 c2 W h1 h2=>by have k:=cCmp (.slice p1 (aa x) c1) (.slice p2 (aa y) c2) x.natAbs y.natAbs (by omega) W h1 h2;rwa [fV h]at k) (fun p1 c1 p2 c2 W h1 h2=>z4G _ _ _ _ (by omega) (by omega) W h1 h2) (fun s d W h'=>lq _ _ _ _ ((pU hs).2 h) hd2 W h') r1 r2
   · exact z3W x y (x+y) (x.natAbs-y.natAbs) (cmpN x.natAbs y.natAbs) (by unfold cmpN;split<;>(try split)<;>omega) hs p1 c1 p2 c2 w (fun p1 c1 p2 c2 W h1 h2=>cCmp _ _ _ _ (by omega) W h1 h2) (fun p1 c1 p2 c2 W h1 h2=>z4G _ _ _ _ h (by omega) W h1 h2) (fun s d W h'=>lq _ _ _ _ ((pU hs).1 h) hd1 W h') r1 r2
theorem yX (x y:Int):x*y=(if (decide (x<0) != decide (y<0)) then -((x.natAbs*y.natAbs:Nat):Int) else ((x.natAbs*y.natAbs:Nat):Int)):=by
 rw[Int.natCast_mul];by_cases hx:x<0
 · by_cases hy:y<0
   · have e1:(x.natAbs:Int) = -x:=by omega
     have e2:(y.natAbs:Int) = -y:=by omega
     rw[e1,e2];simp[hx,hy,Int.neg_mul,Int.mul_neg]
   · have e1:(x.natAbs:Int) = -x:=by omega
     have e2:(y.natAbs:Int)=y:=by omega
     rw[e1,e2];simp[hx,hy,Int.neg_mul]
 · by_cases hy:y<0
   · have e1:(x.natAbs:Int)=x:=by omega
     have e2:(y.natAbs:Int) = -y:=by omega
     rw[e1,e2];simp[hx,hy,Int.mul_neg]
   · have e1:(x.natAbs:Int)=x:=by omega
     have e2:(y.natAbs:Int)=y:=by omega
     rw[e1,e2];simp[hx,hy]
theorem z5S (u1 u2:Value)(x y:Int)(hx:(ae x.natAbs).length≤50000)(hy:(ae y.natAbs).length≤50000)(w:World)(h1:Rz w u1 x)(h2:Rz w u2 y) :
 Calls Tryz.prog 92 #[u1,u2] w fun e w'=>∃ u,e=.returned u∧Rz w' u (x*y)∧Below w.heap.size w w':=by
 obtain⟨p1,c1,rfl,r1⟩:=h1.sh;obtain⟨p2,c2,rfl,r2⟩:=h2.sh;have hml:=iA x.natAbs y.natAbs;have hml':ag (x.natAbs*y.natAbs)≤ag x.natAbs+ag y.natAbs:=hml;have hx':ag x.natAbs≤50000:=hx;have hy':ag y.natAbs≤50000:=hy;exact z4v (z01 x y (x*y) (x.natAbs*y.natAbs) p1 c1 p2 c2 w (fun p1 c1 p2 c2 W h1 h2=>ou _ _ _ _ (by omega) (by omega) W h1 h2) (fun s d W h=>lq _ _ _ _ (yX x y) (by omega) W h) r1 r2)
theorem xV {w:World}{v:Value}{xs:List Nat}{g:Nat}{b:Bool}{q:Option Addr}{l c:Nat}{T:TypeId}{fz:Nat × Nat}(hg:w.heap[g]? = some (.cells #[.bool b,.slice q l c] T fz))(h:Rd .u32 w v xs)(i:Nat)(u:Value):Rd .u32 (w.setCell ⟨g,i,none⟩ u) v xs:=by
 rcases h with h|⟨b',o,c',h1,h2,h3,h4,h5⟩
 · exact Or.inl h
 · refine Or.inr ⟨b',o,c',h1,h2,h3,by simpa [World.setCell] using h4,fun j hj=>?_⟩
   have h6:=h5 j hj
   have hne:b'≠g:=by
    intro e;subst e;simp only[World.cell?,hg]at h6
    match hk:o+j with
    | 0=>rw[hk]at h6;simp at h6
    | 1=>rw[hk]at h6;simp at h6
    | n+2=>rw[hk]at h6;simp at h6
   exact(z0k hne).trans h6
set_option maxRecDepth 100000
set_option maxHeartbeats 20000000
open Go.Lib (hid)
theorem uq {W W':World}{g:Nat}{o:Obj}(h:W.heap[g]? = some o)(hb:Below W.heap.size W W'):W'.heap[g]? = some o:=by
 rw[hb.block g (Array.getElem?_eq_some_iff.1 h).1];exact h
theorem heap_set {W:World}{g i:Nat}{b b':Bool}{q:Option Addr}{l c:Nat}{T:TypeId}{fz:Nat × Nat}(h:W.heap[g]? = some (.cells #[.bool b,.slice q l c] T fz))(hi:i=0):(W.setCell ⟨g,i,none⟩ (.bool b')).heap[g]? = some (.cells #[.bool b',.slice q l c] T fz):=by
 subst hi;simp only[World.setCell,Array.getElem?_modify,h];simp
theorem z03 (ba bb ob r:Bool)(p1:Option Addr)(l1 c1:Nat)(p2:Option Addr)(l2 c2:Nat)(m n L:Nat)(w:World)
 (hO:∀ W,Below w.heap.size w W→Calls Tryz.prog 137 #[.agg #[.bool bb,.slice p2 l2 c2]] W fun e w'=>∃ p c,e=.returned (.agg #[.bool ob,.slice p l2 c])∧Rd .u32 w' (.slice p l2 c) (ae m)∧Below W.heap.size W w')
 (hQ:∀ W p c,Below w.heap.size w W→Rd .u32 W (.slice p l2 c) (ae m)→Calls Tryz.prog 93 #[.agg #[.bool ba,.slice p1 l1 c1],.agg #[.bool ob,.slice p l2 c]] W fun e w'=>∃ p' c',e=.returned (.agg #[.bool r,.slice p' L c'])∧Rd .u32 w' (.slice p' L c') (ae n)∧Below W.heap.size W w') :
 Calls Tryz.prog 103 #[.agg #[.bool ba,.slice p1 l1 c1],.agg #[.bool bb,.slice p2 l2 c2]] w fun e w'=>∃ v,e=.returned (.agg #[.bool r,v])∧Rd .u32 w' v (ae n)∧Below w.heap.size w w':=by
 have HO:=hid hO;have HQ:=hid hQ;have HW:=hid (((((Below.refl w.heap.size w).alloc (Nat.le_refl _) (.cells #[.bool ba,.slice p1 l1 c1] 47)).alloc (by simp) (.cells #[.bool bb,.slice p2 l2 c2] 47)).alloc (by simp;omega) (.cells #[.bool false,.slice none 0 0] 47)))
 have AH:=hid (show(((w.alloc (.cells #[.bool ba,.slice p1 l1 c1] 47)).alloc (.cells #[.bool bb,.slice p2 l2 c2] 47)).alloc (.cells #[.bool false,.slice none 0 0] 47)).heap[w.heap.size+1+1]? = some (.cells #[.bool false,.slice none 0 0] 47 (0,0)) by
  rw[show w.heap.size+1+1=((w.alloc (.cells #[.bool ba,.slice p1 l1 c1] 47)).alloc (.cells #[.bool bb,.slice p2 l2 c2] 47)).heap.size by simp];exact heap_alloc_new _ _)
 have A00:=hid (show(((w.alloc (.cells #[.bool ba,.slice p1 l1 c1] 47)).alloc (.cells #[.bool bb,.slice p2 l2 c2] 47)).alloc (.cells #[.bool false,.slice none 0 0] 47)).cell? ⟨w.heap.size,0,none⟩=some (.bool ba) by rw[eY (by simp;omega),eY (by simp),pI rfl];rfl);have A01:=hid (show(((w.alloc (.cells #[.bool ba,.slice p1 l1 c1] 47)).alloc (.cells #[.bool bb,.slice p2 l2 c2] 47)).alloc (.cells #[.bool false,.slice none 0 0] 47)).cell? ⟨w.heap.size,1,none⟩=some (.slice p1 l1 c1) by rw[eY (by simp;omega),eY (by simp),pI rfl];rfl);have A10:=hid (show(((w.alloc (.cells #[.bool ba,.slice p1 l1 c1] 47)).alloc (.cells #[.bool bb,.slice p2 l2 c2] 47)).alloc (.cells #[.bool false,.slice none 0 0] 47)).cell? ⟨w.heap.size+1,0,none⟩=some (.bool bb) by rw[eY (by simp),pI (by simp)];rfl);have A11:=hid (show(((w.alloc (.cells #[.bool ba,.slice p1 l1 c1] 47)).alloc (.cells #[.bool bb,.slice p2 l2 c2] 47)).alloc (.cells #[.bool false,.slice none 0 0] 47)).cell? ⟨w.heap.size+1,1,none⟩=some (.slice p2 l2 c2) by rw[eY (by simp),pI (by simp)];rfl);have A20:=hid (show(((w.alloc (.cells #[.bool ba,.slice p1 l1 c1] 47)).alloc (.cells #[.bool bb,.slice p2 l2 c2] 47)).alloc (.cells #[.bool false,.slice none 0 0] 47)).cell? ⟨w.heap.size+1+1,0,none⟩=some (.bool false) by rw[pI (by simp)];rfl);have A21:=hid (show(((w.alloc (.cells #[.bool ba,.slice p1 l1 c1] 47)).alloc (.cells #[.bool bb,.slice p2 l2 c2] 47)).alloc (.cells #[.bool false,.slice none 0 0] 47)).cell? ⟨w.heap.size+1+1,1,none⟩=some (.slice none 0 0) by rw[pI (by simp)];rfl);have F0:=hid (show(((w.alloc (.cells #[.bool ba,.slice p1 l1 c1] 47)).alloc (.cells #[.bool bb,.slice p2 l2 c2] 47)).alloc (.cells #[.bool false,.slice none 0 0] 47)).frozen? ⟨w.heap.size+1+1,0,none⟩=false by rw[z4f (by simp)]);have F1:=hid (show(((w.alloc (.cells #[.bool ba,.slice p1 l1 c1] 47)).alloc (.cells #[.bool bb,.slice p2 l2 c2] 47)).alloc (.cells #[.bool false,.slice none 0 0] 47)).frozen? ⟨w.heap.size+1+1,1,none⟩=false by rw[z4f (by simp)]);clear hO hQ;go_enter func103,ntmps103
 go_wp2
 go_region_held3 (fun w'=>w'.cell? ⟨w.heap.size,0,none⟩=some (.bool ba)∧w'.cell? ⟨w.heap.size,1,none⟩=some (.slice p1 l1 c1)∧w'.cell? ⟨w.heap.size+1,0,none⟩=some (.bool bb)∧w'.cell? ⟨w.heap.size+1,1,none⟩=some (.slice p2 l2 c2)) (first|((try go_split_ands);refine⟨?_,?_,?_,?_⟩<;>(first|(with_reducible assumption)|((repeat (first|rw[nE]|rw[eY (by first|assumption|omega|(simp;done)|(simp;omega))]|rw[z0k (by omega)]));first|(with_reducible assumption)|(simp;done))))|(go_keep;done))
  (first|(go_at_call 137;refine(HO.o _ ?bd).mono ?_;(case bd=>first|exact HW.o|exact HW.o.drew);rintro e w1 ⟨po,co,rfl,ro,hb1⟩;obtain⟨hc1,hf1⟩:=fB hb1;have hs1:=hb1.size;(try simp at hs1);have q10:w.heap.size<w1.heap.size:=(by omega);have q11:w.heap.size+1<w1.heap.size:=(by omega);have q12:w.heap.size+1+1<w1.heap.size:=(by omega);have s100:w1.cell? ⟨w.heap.size,0,none⟩=some (.bool ba):=(by rw[hc1 _ _ (by first|assumption|omega|(simp;done)|(simp;omega))];first|(with_reducible assumption)|exact A00.o);have s101:w1.cell? ⟨w.heap.size,1,none⟩=some (.slice p1 l1 c1):=(by rw[hc1 _ _ (by first|assumption|omega|(simp;done)|(simp;omega))];first|(with_reducible assumption)|exact A01.o);have s110:w1.cell? ⟨w.heap.size+1,0,none⟩=some (.bool bb):=(by rw[hc1 _ _ (by first|assumption|omega|(simp;done)|(simp;omega))];first|(with_reducible assumption)|exact A10.o);have s111:w1.cell? ⟨w.heap.size+1,1,none⟩=some (.slice p2 l2 c2):=(by rw[hc1 _ _ (by first|assumption|omega|(simp;done)|(simp;omega))];first|(with_reducible assumption)|exact A11.o);have s120:w1.cell? ⟨w.heap.size+1+1,0,none⟩=some (.bool false):=(by rw[hc1 _ _ (by first|assumption|omega|(simp;done)|(simp;omega))];first|(with_reducible assumption)|exact A20.o);have s121:w1.cell? ⟨w.heap.size+1+1,1,none⟩=some (.slice none 0 0):=(by rw[hc1 _ _ (by first|assumption|omega|(simp;done)|(simp;omega))];first|(with_reducible assumption)|exact A21.o);have f10:w1.frozen? ⟨w.heap.size+1+1,0,none⟩=false:=(by rw[hf1 _ _ (by first|assumption|omega|(simp;done)|(simp;omega))];first|(with_reducible assumption)|exact F0.o);have f11:w1.frozen? ⟨w.heap.size+1+1,1,none⟩=false:=(by rw[hf1 _ _ (by first|assumption|omega|(simp;done)|(simp;omega))];first|(with_reducible assumption)|exact F1.o);have u6:=hid (show Below w.heap.size w w1 from Below.trans HW.o (by first|exact hb1.mono (by first|omega|(simp;omega)|simp)|exact Below.trans (Below.drew (Below.refl _ _)) (hb1.mono (by first|omega|(simp;omega)|simp))));have RO:=hid ro;have hg1:=hid (show w1.heap[w.heap.size+1+1]? = some (.cells #[.bool false,.slice none 0 0] 47 (0,0)) from(by refine uq ?_ hb1;exact AH.o)))|(go_at_call 93;refine(HQ.o w1 po co u6.o RO.o).mono ?_;rintro e w2 ⟨pv,cv,rfl,rv,hb2⟩;obtain⟨hc2,hf2⟩:=fB hb2;have hs2:=hb2.size;(try simp at hs2);have q20:w.heap.size<w2.heap.size:=(by omega);have q21:w.heap.size+1<w2.heap.size:=(by omega);have q22:w.heap.size+1+1<w2.heap.size:=(by omega);have s200:w2.cell? ⟨w.heap.size,0,none⟩=some (.bool ba):=(by rw[hc2 _ _ (by first|assumption|omega|(simp;done)|(simp;omega))];first|(with_reducible assumption)|exact A00.o);have s201:w2.cell? ⟨w.heap.size,1,none⟩=some (.slice p1 l1 c1):=(by rw[hc2 _ _ (by first|assumption|omega|(simp;done)|(simp;omega))];first|(with_reducible assumption)|exact A01.o);have s210:w2.cell? ⟨w.heap.size+1,0,none⟩=some (.bool bb):=(by rw[hc2 _ _ (by first|assumption|omega|(simp;done)|(simp;omega))];first|(with_reducible assumption)|exact A10.o);have s211:w2.cell? ⟨w.heap.size+1,1,none⟩=some (.slice p2 l2 c2):=(by rw[hc2 _ _ (by first|assumption|omega|(simp;done)|(simp;omega))];first|(with_reducible assumption)|exact A11.o);have s220:w2.cell? ⟨w.heap.size+1+1,0,none⟩=some (.bool false):=(by rw[hc2 _ _ (by first|assumption|omega|(simp;done)|(simp;omega))];first|(with_reducible assumption)|exact A20.o);have s221:w2.cell? ⟨w.heap.size+1+1,1,none⟩=some (.slice none 0 0):=(by rw[hc2 _ _ (by first|assumption|omega|(simp;done)|(simp;omega))];first|(with_reducible assumption)|exact A21.o);have f20:w2.frozen? ⟨w.heap.size+1+1,0,none⟩=false:=(by rw[hf2 _ _ (by first|assumption|omega|(simp;done)|(simp;omega))];first|(with_reducible assumption)|exact F0.o);have f21:w2.frozen? ⟨w.heap.size+1+1,1,none⟩=false:=(by rw[hf2 _ _ (by first|assumption|omega|(simp;done)|(simp;omega))];first|(with_reducible assumption)|exact F1.o);have hg2:=hid (uq hg1.o hb2))|fail)
 all_goals
  go_wp2;have HB:Below w.heap.size w w2:=u6.o.trans (hb2.mono u6.o.size);refine bodyPost_ret (v:=.agg #[.bool r,.slice pv L cv]) (by simp[results,results103,go_sem,s220,s221]) rfl ⟨_,rfl,?_,?_⟩
  · exact xV (heap_set hg2.o rfl) (xV hg2.o rv 0 _) 1 _
  · exact(HB.setCell (p:=⟨w.heap.size+1+1,0,none⟩) (by show w.heap.size≤w.heap.size+1+1;omega) _).setCell (p:=⟨w.heap.size+1+1,1,none⟩) (by show w.heap.size≤w.heap.size+1+1;omega) _
theorem z5V (u1 u2:Value)(x y:Int)(hx:(ae x.natAbs).length≤50000)(hy:(ae y.natAbs).length≤50000)(w:World)(h1:Rz w u1 x)(h2:Rz w u2 y) :
 Calls Tryz.prog 103 #[u1,u2] w fun e w'=>∃ u,e=.returned u∧Rz w' u (x-y)∧Below w.heap.size w w':=by
 obtain⟨p1,c1,rfl,r1⟩:=iZ h1;obtain⟨p2,c2,rfl,r2⟩:=iZ h2;refine(z03 (decide (x<0)) (decide (y<0)) (decide (-y<0)) (decide (x-y<0)) p1 _ c1 p2 _ c2 (-y).natAbs (x-y).natAbs (ae (x-y).natAbs).length w ?_ ?_).mono ?_
 · intro W hW
   have h:=sQ _ y (by omega) W (Rz.below ⟨_,rfl,r2⟩ hW);exact qP rfl (by rw[Int.natAbs_neg]) h
 · intro W p c hW hr
   have h:=z5U (.agg #[.bool (decide (x<0)),.slice p1 (ae x.natAbs).length c1]) (.agg #[.bool (decide (-y<0)),.slice p (ae y.natAbs).length c]) x (-y) hx (by rw[Int.natAbs_neg];exact hy) W (Rz.below ⟨_,rfl,r1⟩ hW) ⟨_,rfl,hr⟩;rw[← Int.sub_eq_add_neg]at h;exact qP rfl rfl h
 · rintro e w' ⟨v,e1,e2,e3⟩
   exact⟨_,e1,⟨_,rfl,e2⟩,e3⟩
end Go.Proofs.YtoaeaiiabelhkaaGreatDoor
set_option maxRecDepth 100000
set_option maxHeartbeats 20000000
namespace Go.Proofs.YtoaeaiiabelhkaaGreatDoor
open Go.RowKit Go.Gb
theorem z3X (ba bb r:Bool)(p1:Option Addr)(l1 c1:Nat)(p2:Option Addr)(l2 c2:Nat)(L:Nat)(s:Int)(w:World)
 (hs:s=if r=true then -1 else if 0<L then 1 else 0)
 (hM:∀ W,Below w.heap.size w W→Calls Tryz.prog 103 #[.agg #[.bool ba,.slice p1 l1 c1],.agg #[.bool bb,.slice p2 l2 c2]] W fun e w'=>∃ p c,e=.returned (.agg #[.bool r,.slice p L c])∧Below W.heap.size W w') :
 CR 66 #[.agg #[.bool ba,.slice p1 l1 c1],.agg #[.bool bb,.slice p2 l2 c2]] w (.int .i64 s):=by
 have HM:=Lib.hid hM;have HS:=Lib.hid (fun W p c=>oH r p L c s hs W);have HW:=Lib.hid (((Below.refl w.heap.size w).alloc (Nat.le_refl _) (.cells #[.bool ba,.slice p1 l1 c1] 47)).alloc (by simp) (.cells #[.bool bb,.slice p2 l2 c2] 47));clear hM hs;go_enter func66,ntmps66
 go_wp2_with fail
 refine(HM.o _ HW.o).mono ?_;rintro e w1 ⟨p,c,rfl,hb1⟩;have u6:=Lib.hid (HW.o.trans (hb1.mono HW.o.size));clear hb1;go_wp2_with fail
 refine(HS.o w1 p c).mono ?_;rintro e w2 ⟨rfl,hb⟩;have wu:=Lib.hid (u6.o.trans (hb.mono u6.o.size));clear hb;go_wp2;go_ret
 exact⟨rfl,wu.o⟩
theorem zCmp (u1 u2:Value)(x y:Int)(hx:(ae x.natAbs).length≤50000)(hy:(ae y.natAbs).length≤50000)(w:World)(h1:Rz w u1 x)(h2:Rz w u2 y) :
 CR 66 #[u1,u2] w (.int .i64 (cmpZ x y)):=by
 obtain⟨p1,c1,rfl,r1⟩:=iZ h1;obtain⟨p2,c2,rfl,r2⟩:=iZ h2;refine z3X _ _ (decide (x-y<0)) p1 _ c1 p2 _ c2 (ae (x-y).natAbs).length (cmpZ x y) w ?_ ?_
 · have hl:=rE (x-y).natAbs
   rcases Int.lt_trichotomy x y with h|h|h
   · rw[oh h,if_pos (decide_eq_true (by omega))]
   · subst h
     rw[rX,Int.sub_self];simp[aQ]
   · rw[om h,if_neg (by rw[decide_eq_false (by omega)];simp),if_pos]
     exact List.length_pos_iff.2 (by rw[bP (by omega)];simp)
 · intro W hW
   exact(qP rfl rfl (z5V _ _ x y hx hy W (Rz.below ⟨_,rfl,r1⟩ hW) (Rz.below ⟨_,rfl,r2⟩ hW))).mono fun e w' ⟨p,c,e1,_,e3⟩=>⟨p,c,e1,e3⟩
theorem sTo (z:Int)(s:ByteArray)(hs:Sz z=s)(hf:aa z≤10000)(hs2:(Sn z.natAbs).size≤100000)(p:Option Addr)(c:Nat)(w:World)(h:RN w (.slice p (aa z) c) z.natAbs) :
 CR 104 #[.agg #[.bool (ah z),.slice p (aa z) c]] w (.string s):=by subst hs;exact zTo _ z hf hs2 w (Rz.mk h)
theorem vI (z s:Int)(hs:z.sign=s)(p:Option Addr)(c:Nat)(w:World)(h:RN w (.slice p (aa z) c) z.natAbs) :
 CR 53 #[.agg #[.bool (ah z),.slice p (aa z) c]] w (.int .i64 s):=by subst hs;exact z4I _ z w (Rz.mk h)
theorem z6h (x y z:Int)(hz:x*y=z)(hx:aa x≤50000)(hy:aa y≤50000)(p1:Option Addr)(c1:Nat)(p2:Option Addr)(c2:Nat)(w:World)(r1:RN w (.slice p1 (aa x) c1) x.natAbs)(r2:RN w (.slice p2 (aa y) c2) y.natAbs) :
 CZ 92 #[.agg #[.bool (ah x),.slice p1 (aa x) c1],.agg #[.bool (ah y),.slice p2 (aa y) c2]] w z:=by subst hz;exact zm (z5S _ _ x y hx hy w (Rz.mk r1) (Rz.mk r2))
theorem z6m (x y z:Int)(hz:x+y=z)(hx:aa x≤50000)(hy:aa y≤50000)(p1:Option Addr)(c1:Nat)(p2:Option Addr)(c2:Nat)(w:World)(r1:RN w (.slice p1 (aa x) c1) x.natAbs)(r2:RN w (.slice p2 (aa y) c2) y.natAbs) :
 CZ 93 #[.agg #[.bool (ah x),.slice p1 (aa x) c1],.agg #[.bool (ah y),.slice p2 (aa y) c2]] w z:=by subst hz;exact zm (z5U _ _ x y hx hy w (Rz.mk r1) (Rz.mk r2))
theorem z0J (x z:Int)(hz : -x=z)(hx:aa x≤1000000)(p1:Option Addr)(c1:Nat)(w:World)(r1:RN w (.slice p1 (aa x) c1) x.natAbs) :
 CZ 137 #[.agg #[.bool (ah x),.slice p1 (aa x) c1]] w z:=by subst hz;exact zm (sQ _ x hx w (Rz.mk r1))
end Go.Proofs.YtoaeaiiabelhkaaGreatDoor
open Go.Lib (hid)
namespace Go.Proofs.YtoaeaiiabelhkaaGreatDoor
open Go.RowKit Go.Gb
theorem z4s (k:Int)(n:Nat)(hk:(n:Int)=k)(h0:0≤k)(h1:k≤2000000000)(w:World) :
 CZ 55 #[.int .i64 k] w k:=by
 have hl:ag n≤1000000:=Nat.le_trans (gN (show n≤2000000000 by omega)) (by decide +kernel);have C1:=hid (fun W=>jf k n hk (by omega) W);have C2:=hid (fun v W h=>lq false v n k (by rw[if_neg (by simp)];exact hk.symm) hl W h);have d0:decide (k<0)=false:=decide_eq_false (by omega);have e0:¬ k<0:=by omega
 clear hl hk;go_enter func55,ntmps55
 go_upto_region 1 with fail
 refine av w [(#[.bool false,.slice none 0 0],47)] rfl ?_;rintro W0 ⟨k1,hb⟩;have wm:=hid (show Below w.heap.size w W0 from hb);have K1:=hid k1;clear k1 hb;go_wp2_with fail
 with_reducible refine(C1.o _).mono ?_
 rintro e W1 ⟨l5,ma,rfl,uu,hb⟩;have K1:=hid (K1.o.below hb);have u6:=hbt wm hb;have RN1:=hid uu;clear hb uu;go_wp2_with fail
 with_reducible refine(C2.o _ _ RN1.o).mono ?_
 rintro e W2 ⟨rM,rV,rfl,wo,hb⟩;have K1:=hid (K1.o.below hb);have wu:=hbt u6 hb;have RK:=hid wo;clear hb wo;obtain ⟨sw,w9⟩:=aC K1.o rfl rfl;obtain ⟨kz,kM⟩:=aS K1.o;go_wp2;exact bodyPost_ret (v:=.agg #[.bool (ah k),.slice rM (aa k) rV]) (by simp[results,results55,go_sem,sw,w9]) rfl ⟨_,_,rfl,(aX [.bool (ah k),.slice rM (aa k) rV] RK.o K1.o (by simp[bJ]) (by simp[aU])),(aj (l:=[.bool (ah k),.slice rM (aa k) rV]) (i:=0) (by omega) wu.o)⟩
theorem pQ (w:World) :
 Calls Tryz.prog 55 #[.int .i64 (-1)] w fun e w'=>∃ p c,e=.returned (.agg #[.bool (ah (-1)),.slice p (aa (-1)) c])∧RN w' (.slice p (aa (-1)) c) (-1:Int).natAbs∧Below w.heap.size w w':=by
 have C1:=hid (fun W=>jf 1 1 rfl (by decide) W);have C2:=hid (fun v W h=>lq true v 1 (-1) rfl (by rw[jM];decide) W h);go_enter func55,ntmps55
 go_upto_region 1 with fail
 refine av w [(#[.bool false,.slice none 0 0],47)] rfl ?_;rintro W0 ⟨k1,hb⟩;have wm:=hid (show Below w.heap.size w W0 from hb);have K1:=hid k1;clear k1 hb;go_wp2_with fail
 with_reducible refine(C1.o _).mono ?_
 rintro e W1 ⟨l5,ma,rfl,uu,hb⟩;have K1:=hid (K1.o.below hb);have u6:=hbt wm hb;have RN1:=hid uu;clear hb uu;go_wp2_with fail
 with_reducible refine(C2.o _ _ RN1.o).mono ?_
 rintro e W2 ⟨rM,rV,rfl,wo,hb⟩;have K1:=hid (K1.o.below hb);have wu:=hbt u6 hb;have RK:=hid wo;clear hb wo;obtain ⟨sw,w9⟩:=aC K1.o rfl rfl;obtain ⟨kz,kM⟩:=aS K1.o;go_wp2;exact bodyPost_ret (v:=.agg #[.bool (ah (-1)),.slice rM (aa (-1)) rV]) (by simp[results,results55,go_sem,sw,w9]) rfl ⟨_,_,rfl,(aX [.bool (ah (-1)),.slice rM (aa (-1)) rV] RK.o K1.o (by simp[bJ]) (by simp[aU])),(aj (l:=[.bool (ah (-1)),.slice rM (aa (-1)) rV]) (i:=0) (by omega) wu.o)⟩
open Go.Lib (hid)
theorem yL (v1 v2:Value)(a b q r:Nat)(hq:a / b=q)(hr:a%b=r)(hb:b≠0)(hl:ag a≤50000)(w:World)(h1:RN w v1 a)(h2:RN w v2 b) :
 Calls Tryz.prog 90 #[v1,v2] w fun e w'=>∃ p c p' c',e=.returned (.tuple #[.slice p (ag q) c,.slice p' (ag r) c'])∧RN w' (.slice p (ag q) c) q∧RN w' (.slice p' (ag r) c') r∧Below w.heap.size w w':=by
 subst hq hr;exact z7s v1 v2 a b hb hl w h1 h2
theorem z0P {w:World}{p:Option Addr}{n c g:Nat}(h:RN w (.slice p n c) g)(hg:(ae g).length=1):∃ b o,p=some ⟨b,o,none⟩∧n=1∧w.cell? ⟨b,o,none⟩=some (.int .u32 (g:Int)):=by
 rcases h with⟨e,h⟩|⟨b,o,c',e,h2,h3,h4,h5⟩
 · rw[h]at hg;cases hg
 · injection e with e1 e2 e3
   refine⟨b,o,e1,by omega,?_⟩;have h6:=h5 0 (by omega);have hv:=az g
   have hd:ae g=[(ae g).getD 0 0]:=by
    match hk:ae g,hg with
    | [x],_=>rfl
   rw[hd]at hv;have e0:(ae g).getD 0 0=g:=by simpa [ai] using hv
   rw[e0]at h6;exact h6
theorem zA (z:Int)(d:Nat)(hz:aa z≤50000)(hd:ag d≤50000)(p1:Option Addr)(c1:Nat)(s1:Option Addr)(d1:Nat)(hg:Nat.gcd z.natAbs d=1)(w:World)(r1:RN w (.slice p1 (aa z) c1) z.natAbs)(t1:RN w (.slice s1 (ag d) d1) d) :
 Calls Tryz.prog 91 #[.agg #[.bool (ah z),.slice p1 (aa z) c1],.slice s1 (ag d) d1] w fun e w'=>∃ p c s e1,e=.returned (.agg #[.bool (ah z),.slice p (aa z) c,.slice s (ag d) e1])∧RN w' (.slice p (aa z) c) z.natAbs∧RN w' (.slice s (ag d) e1) d∧Below w.heap.size w w':=by
 have C1:=hid (show ∀ v1 v2 W,RN W v1 z.natAbs→RN W v2 d→Calls Tryz.prog 54 #[v1,v2] W fun e w'=>∃ b o c,e=.returned (.slice (some ⟨b,o,none⟩) 1 c)∧w'.cell? ⟨b,o,none⟩=some (.int .u32 1)∧Below W.heap.size W w' from fun v1 v2 W h1 h2=>by
  refine(ow v1 v2 z.natAbs d 1 hg hz hd W h1 h2).mono ?_;rintro e w' ⟨p,c,rfl,hr,hb⟩;obtain⟨b,o,rfl,_,h⟩:=z0P hr jM;rw[jM]
  exact⟨b,o,c,rfl,h,hb⟩)
 clear hg hz hd;have R1:=hid r1;have T1:=hid t1;clear r1 t1;go_enter func91,ntmps91
 go_upto_region 1 with fail
 refine av w [(#[.bool (ah z),.slice p1 (aa z) c1],47),(#[.bool false,.slice none 0 0,.slice none 0 0],49)] rfl ?_;rintro W0 ⟨k1,k2,hb⟩;have wm:=hid (show Below w.heap.size w W0 from hb);obtain ⟨R1,T1⟩:=aK wm.o R1 T1;obtain ⟨K1,K2⟩:=aB k1 k2;clear k1 k2 hb;have w9:=K1.o.cell (i:=1) rfl;go_wp2_with fail
 with_reducible refine(C1.o _ _ _ R1.o T1.o).mono ?_
 rintro e W1 ⟨kV,gy,ma,rfl,uu,hb⟩;clear w9;obtain ⟨K1,K2,R1,T1⟩:=bY hb K1 K2 R1 T1;have u6:=hbt wm hb;have XC:=hid uu;clear hb uu;have dxc:=XC.o;obtain ⟨sw,w9⟩:=aC K1.o rfl rfl;obtain ⟨p8,pq,pu⟩:=aA K2.o rfl rfl rfl;obtain ⟨l6,lg,ll⟩:=bC K2.o;go_wp2;exact bodyPost_ret (v:=.agg #[.bool (ah z),.slice p1 (aa z) c1,.slice s1 (ag d) d1]) (by simp[results,results91,go_sem,p8,pq,pu]) rfl ⟨_,_,_,_,rfl,(aX [.bool (ah z),.slice p1 (aa z) c1,.slice s1 (ag d) d1] R1.o K2.o (by simp[bJ]) (by simp[aU])),(aX [.bool (ah z),.slice p1 (aa z) c1,.slice s1 (ag d) d1] T1.o K2.o (by simp[bJ]) (by simp[aU])),(aj (l:=[.bool (ah z),.slice p1 (aa z) c1,.slice s1 (ag d) d1]) (i:=0) (by omega) u6.o)⟩
theorem vR (z:Int)(d:Nat)(hz:aa z≤50000)(hd:ag d≤50000)(p1:Option Addr)(c1:Nat)(s1:Option Addr)(d1:Nat)(g a a1 b b1:Nat)(y:Int)(hg:Nat.gcd z.natAbs d=g)(g0:g≠0)(g1:g≠1)(gl:ag g=1)(ha:z.natAbs / g=a)(ha1:z.natAbs%g=a1)(hb:d / g=b)(hb1:d%g=b1)(hy:y=if ah z then -(a:Int) else (a:Int))(w:World)(r1:RN w (.slice p1 (aa z) c1) z.natAbs)(t1:RN w (.slice s1 (ag d) d1) d) :
 Calls Tryz.prog 91 #[.agg #[.bool (ah z),.slice p1 (aa z) c1],.slice s1 (ag d) d1] w fun e w'=>∃ p c s e1,e=.returned (.agg #[.bool (ah y),.slice p (aa y) c,.slice s (ag b) e1])∧RN w' (.slice p (aa y) c) y.natAbs∧RN w' (.slice s (ag b) e1) b∧Below w.heap.size w w':=by
 have C1:=hid (show ∀ v1 v2 W,RN W v1 z.natAbs→RN W v2 d→Calls Tryz.prog 54 #[v1,v2] W fun e w'=>∃ b o c,e=.returned (.slice (some ⟨b,o,none⟩) 1 c)∧w'.cell? ⟨b,o,none⟩=some (.int .u32 (g:Int))∧RN w' (.slice (some ⟨b,o,none⟩) 1 c) g∧Below W.heap.size W w' from fun v1 v2 W h1 h2=>by
  refine(ow v1 v2 z.natAbs d g hg hz hd W h1 h2).mono ?_;rintro e w' ⟨p,c,rfl,hr,hb⟩;obtain⟨b,o,rfl,_,h⟩:=z0P hr gl;rw[gl]at hr ⊢
  exact⟨b,o,c,rfl,h,hr,hb⟩)
 have C2:=hid (fun v1 v2 W h1 h2=>yL v1 v2 z.natAbs g a a1 ha ha1 g0 hz W h1 h2);have C3:=hid (fun v1 v2 W h1 h2=>yL v1 v2 d g b b1 hb hb1 g0 hd W h1 h2);have C4:=hid (fun v W h=>lq (ah z) v a y hy (by rw[← ha];exact Nat.le_trans (gN (Nat.div_le_self _ _)) (Nat.le_trans hz (by decide))) W h);have g1':((g:Int)==1)=false:=by rw[beq_eq_false_iff_ne];omega
 have g2':¬ (g:Int)=1:=by omega
 have g3':¬ g=1:=g1;clear gl g1 hg hz hd g0 ha ha1 hb hb1 hy;have R1:=hid r1;have T1:=hid t1;clear r1 t1;go_enter func91,ntmps91
 go_upto_region 1 with fail
 refine av w [(#[.bool (ah z),.slice p1 (aa z) c1],47),(#[.bool false,.slice none 0 0,.slice none 0 0],49)] rfl ?_;rintro W0 ⟨k1,k2,hb⟩;have wm:=hid (show Below w.heap.size w W0 from hb);obtain ⟨R1,T1⟩:=aK wm.o R1 T1;obtain ⟨K1,K2⟩:=aB k1 k2;clear k1 k2 hb;have w9:=K1.o.cell (i:=1) rfl;go_wp2_with fail
 with_reducible refine(C1.o _ _ _ R1.o T1.o).mono ?_
 rintro e W1 ⟨kV,gy,ma,rfl,uu,lv,hb⟩;clear w9;obtain ⟨K1,K2,R1,T1⟩:=bY hb K1 K2 R1 T1;have u6:=hbt wm hb;have XC:=hid uu;have RG:=hid lv;clear hb uu lv;have dxc:=XC.o;have w9:=K1.o.cell (i:=1) rfl;go_wp2_with fail
 with_reducible refine(C2.o _ _ _ R1.o RG.o).mono ?_
 rintro e W2 ⟨fq,fQ,ed,d9,rfl,wo,ol,hb⟩;clear w9;obtain ⟨K1,K2,T1,RG⟩:=bY hb K1 K2 T1 RG;have wu:=hbt u6 hb;have RA:=hid wo;have RA1:=hid ol;clear hb wo ol;go_wp2_with fail
 with_reducible refine(C3.o _ _ _ T1.o RG.o).mono ?_
 rintro e W3 ⟨ww,si,dh,dn,rfl,oM,oV,hb⟩;obtain ⟨K1,K2,RA⟩:=bA hb K1 K2 RA;have mf:=hbt wu hb;have RB:=hid oM;have RB1:=hid oV;clear hb oM oV;have sw:=K1.o.cell (i:=0) rfl;go_wp2_with fail
 with_reducible refine(C4.o _ _ RA.o).mono ?_
 rintro e W4 ⟨sj,su,rfl,ny,hb⟩;clear sw;obtain ⟨K2,RB⟩:=aK hb K2 RB;have mi:=hbt mf hb;have RY:=hid ny;clear hb ny;obtain ⟨p8,pq,pu⟩:=aA K2.o rfl rfl rfl;obtain ⟨l6,lg,ll⟩:=bC K2.o;go_wp2;exact bodyPost_ret (v:=.agg #[.bool (ah y),.slice sj (aa y) su,.slice ww (ag b) si]) (by simp[results,results91,go_sem,p8,pq,pu]) rfl ⟨_,_,_,_,rfl,(aX [.bool (ah y),.slice sj (aa y) su,.slice ww (ag b) si] RY.o K2.o (by simp[bJ]) (by simp[aU])),(aX [.bool (ah y),.slice sj (aa y) su,.slice ww (ag b) si] RB.o K2.o (by simp[bJ]) (by simp[aU])),(aj (l:=[.bool (ah y),.slice sj (aa y) su,.slice ww (ag b) si]) (i:=0) (by omega) mi.o)⟩
theorem vS (z:Int)(d:Nat)(hz:aa z≤50000)(hd:ag d≤50000)(p1:Option Addr)(c1:Nat)(s1:Option Addr)(d1:Nat)(g a a1 b b1:Nat)(y:Int)(hg:Nat.gcd z.natAbs d=g)(g0:g≠0)(gl:ag g≠1)(ha:z.natAbs / g=a)(ha1:z.natAbs%g=a1)(hb:d / g=b)(hb1:d%g=b1)(hy:y=if ah z then -(a:Int) else (a:Int))(w:World)(r1:RN w (.slice p1 (aa z) c1) z.natAbs)(t1:RN w (.slice s1 (ag d) d1) d) :
 Calls Tryz.prog 91 #[.agg #[.bool (ah z),.slice p1 (aa z) c1],.slice s1 (ag d) d1] w fun e w'=>∃ p c s e1,e=.returned (.agg #[.bool (ah y),.slice p (aa y) c,.slice s (ag b) e1])∧RN w' (.slice p (aa y) c) y.natAbs∧RN w' (.slice s (ag b) e1) b∧Below w.heap.size w w':=by
 have C1:=hid (fun v1 v2 W h1 h2=>ow v1 v2 z.natAbs d g hg hz hd W h1 h2);have C2:=hid (fun v1 v2 W h1 h2=>yL v1 v2 z.natAbs g a a1 ha ha1 g0 hz W h1 h2);have C3:=hid (fun v1 v2 W h1 h2=>yL v1 v2 d g b b1 hb hb1 g0 hd W h1 h2);have C4:=hid (fun v W h=>lq (ah z) v a y hy (by rw[← ha];exact Nat.le_trans (gN (Nat.div_le_self _ _)) (Nat.le_trans hz (by decide))) W h);have g1':((ag g:Int)==1)=false:=by rw[beq_eq_false_iff_ne];omega
 have g2':¬ (ag g:Int)=1:=by omega
 have g3':¬ ag g=1:=gl;clear gl hg hz hd g0 ha ha1 hb hb1 hy;have R1:=hid r1;have T1:=hid t1;clear r1 t1;go_enter func91,ntmps91
 go_upto_region 1 with fail
 refine av w [(#[.bool (ah z),.slice p1 (aa z) c1],47),(#[.bool false,.slice none 0 0,.slice none 0 0],49)] rfl ?_;rintro W0 ⟨k1,k2,hb⟩;have wm:=hid (show Below w.heap.size w W0 from hb);obtain ⟨R1,T1⟩:=aK wm.o R1 T1;obtain ⟨K1,K2⟩:=aB k1 k2;clear k1 k2 hb;have w9:=K1.o.cell (i:=1) rfl;go_wp2_with fail
 with_reducible refine(C1.o _ _ _ R1.o T1.o).mono ?_
 rintro e W1 ⟨l5,ma,rfl,uu,hb⟩;clear w9;obtain ⟨K1,K2,R1,T1⟩:=bY hb K1 K2 R1 T1;have u6:=hbt wm hb;have RG:=hid uu;clear hb uu;have w9:=K1.o.cell (i:=1) rfl;go_wp2_with fail
 with_reducible refine(C2.o _ _ _ R1.o RG.o).mono ?_
 rintro e W2 ⟨fq,fQ,ed,d9,rfl,wo,ol,hb⟩;clear w9;obtain ⟨K1,K2,T1,RG⟩:=bY hb K1 K2 T1 RG;have wu:=hbt u6 hb;have RA:=hid wo;have RA1:=hid ol;clear hb wo ol;go_wp2_with fail
 with_reducible refine(C3.o _ _ _ T1.o RG.o).mono ?_
 rintro e W3 ⟨ww,si,dh,dn,rfl,oM,oV,hb⟩;obtain ⟨K1,K2,RA⟩:=bA hb K1 K2 RA;have mf:=hbt wu hb;have RB:=hid oM;have RB1:=hid oV;clear hb oM oV;have sw:=K1.o.cell (i:=0) rfl;go_wp2_with fail
 with_reducible refine(C4.o _ _ RA.o).mono ?_
 rintro e W4 ⟨sj,su,rfl,ny,hb⟩;clear sw;obtain ⟨K2,RB⟩:=aK hb K2 RB;have mi:=hbt mf hb;have RY:=hid ny;clear hb ny;obtain ⟨p8,pq,pu⟩:=aA K2.o rfl rfl rfl;obtain ⟨l6,lg,ll⟩:=bC K2.o;go_wp2;exact bodyPost_ret (v:=.agg #[.bool (ah y),.slice sj (aa y) su,.slice ww (ag b) si]) (by simp[results,results91,go_sem,p8,pq,pu]) rfl ⟨_,_,_,_,rfl,(aX [.bool (ah y),.slice sj (aa y) su,.slice ww (ag b) si] RY.o K2.o (by simp[bJ]) (by simp[aU])),(aX [.bool (ah y),.slice sj (aa y) su,.slice ww (ag b) si] RB.o K2.o (by simp[bJ]) (by simp[aU])),(aj (l:=[.bool (ah y),.slice sj (aa y) su,.slice ww (ag b) si]) (i:=0) (by omega) mi.o)⟩
