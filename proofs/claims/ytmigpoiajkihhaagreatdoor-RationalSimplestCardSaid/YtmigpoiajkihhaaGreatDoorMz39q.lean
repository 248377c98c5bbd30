/- Texts of this proof, one behind the other. -/
import Derived.Test.YtmigpoiajkihhaaGreatDoorZd
namespace Go.Proofs.YtmigpoiajkihhaaGreatDoor
open Go.RowKit Go.Gb
theorem rz_of {w:World}{v:Value}{n:Nat}{z:Int}{r:Bool}(hr:r=decide (z<0))(hn:z.natAbs=n)(h:Rd .u32 w v (ah n)):Rz w (.agg #[.bool r,v]) z:=⟨v,by rw[hr],by rw[hn];exact h⟩
theorem z2r (a b:Nat)(h:(ah a).length≤50000):(ah (a-b)).length≤1000000:=by have:=aJ (Nat.sub_le a b);omega
theorem z2f {f:FuncId}{args:Array Value}{w:World}{z:Int}(h:Calls Tryz.prog f args w fun e w'=>∃ p c,e=.returned (.agg #[.bool (ag z),.slice p (aa z) c])∧RN w' (.slice p (aa z) c) z.natAbs∧Below w.heap.size w w') :
 Calls Tryz.prog f args w fun e w'=>∃ u,e=.returned u∧Rz w' u z∧Below w.heap.size w w' :=
 h.mono fun _ _ ⟨_,_,e,r,hb⟩=>⟨_,e,Rz.mk r,hb⟩
theorem zy {x y:Int}(h:(ag x==ag y)=true):x+y=(if ag x=true then -((x.natAbs+y.natAbs:Nat):Int) else ((x.natAbs+y.natAbs:Nat):Int)):=by
 unfold ag at *
 by_cases hx:x<0<;>by_cases hy:y<0<;>simp[hx,hy]at h ⊢ <;> omega
theorem oz {x y:Int}(h:(ag x==ag y)=false):(y.natAbs≤x.natAbs→x+y=(if ag x=true then -((x.natAbs-y.natAbs:Nat):Int) else ((x.natAbs-y.natAbs:Nat):Int)))∧(x.natAbs<y.natAbs→x+y=(if ag y=true then -((y.natAbs-x.natAbs:Nat):Int) else ((y.natAbs-x.natAbs:Nat):Int))):=by
 unfold ag at *
 by_cases hx:x<0<;>by_cases hy:y<0<;>simp[hx,hy]at h ⊢ <;> constructor<;>intro h2<;>omega
theorem z3n (u1 u2:Value)(x y:Int)(hx:(ah x.natAbs).length≤50000)(hy:(ah y.natAbs).length≤50000)(w:World)(h1:Rz w u1 x)(h2:Rz w u2 y) :
 Calls Tryz.prog 100 #[u1,u2] w fun e w'=>∃ u,e=.returned u∧Rz w' u (x+y)∧Below w.heap.size w w':=by
 obtain⟨p1,c1,rfl,r1⟩:=h1.sh
 obtain⟨p2,c2,rfl,r2⟩:=h2.sh
 have hsl:=fC hx hy
 have hx':ae x.natAbs≤50000:=hx
 have hy':ae y.natAbs≤50000:=hy
 have hsl':ae (x.natAbs+y.natAbs)≤50001:=hsl
 have hd1:ae (x.natAbs-y.natAbs)≤1000000:=z2r _ _ hx
 have hd2:ae (y.natAbs-x.natAbs)≤1000000:=z2r _ _ hy
 refine z2f ?_
 cases hs:(ag x==ag y) with
 | true=>exact yf x y (x+y) (x.natAbs+y.natAbs) hs p1 c1 p2 c2 w (fun p1 c1 p2 c2 W h1 h2=>z3W _ _ _ _ (by omega) (by omega) W h1 h2) (fun s d W h=>iM _ _ _ _ (zy hs) (by omega) W h) r1 r2
 | false =>
   rcases Nat.lt_or_ge x.natAbs y.natAbs with h|h
   · exact z1N x y (x+y) (y.natAbs-x.natAbs) (-1) (by decide) hs p1 c1 p2 c2 w (fun p1 c1 p2 c2 W h1 h2=>by have k:=cCmp (.slice p1 (aa x) c1) (.slice p2 (aa y) c2) x.natAbs y.natAbs (by omega) W h1 h2;rwa [fH h]at k) (fun p1 c1 p2 c2 W h1 h2=>z0e _ _ _ _ (by omega) (by omega) W h1 h2) (fun s d W h'=>iM _ _ _ _ ((oz hs).2 h) hd2 W h') r1 r2
   · exact z1O x y (x+y) (x.natAbs-y.natAbs) (cmpN x.natAbs y.natAbs) (by unfold cmpN;split<;>(try split)<;>omega) hs p1 c1 p2 c2 w (fun p1 c1 p2 c2 W h1 h2=>cCmp _ _ _ _ (by omega) W h1 h2) (fun p1 c1 p2 c2 W h1 h2=>z0e _ _ _ _ h (by omega) W h1 h2) (fun s d W h'=>iM _ _ _ _ ((oz hs).1 h) hd1 W h') r1 r2
theorem xm (x y:Int):x*y=(if (decide (x<0) != decide (y<0)) then -((x.natAbs*y.natAbs:Nat):Int) else ((x.natAbs*y.natAbs:Nat):Int)):=by
 rw[Int.natCast_mul]
 by_cases hx:x<0
 · by_cases hy:y<0
   · have e1:(x.natAbs:Int) = -x:=by omega
     have e2:(y.natAbs:Int) = -y:=by omega
     rw[e1,e2];simp[hx,hy,Int.neg_mul,Int.mul_neg]
   · have e1:(x.natAbs:Int) = -x:=by omega
     have e2:(y.natAbs:Int)=y:=by omega
     rw[e1,e2];simp[hx,hy,Int.neg_mul]
 · by_cases hy:y<0
   · have e1:(x.natAbs:Int)=x:=by omega
     have e2:(y.natAbs:Int) = -y:=by omega
     rw[e1,e2];simp[hx,hy,Int.mul_neg]
   · have e1:(x.natAbs:Int)=x:=by omega
     have e2:(y.natAbs:Int)=y:=by omega
     rw[e1,e2];simp[hx,hy]
theorem z3l (u1 u2:Value)(x y:Int)(hx:(ah x.natAbs).length≤50000)(hy:(ah y.natAbs).length≤50000)(w:World)(h1:Rz w u1 x)(h2:Rz w u2 y) :
 Calls Tryz.prog 101 #[u1,u2] w fun e w'=>∃ u,e=.returned u∧Rz w' u (x*y)∧Below w.heap.size w w':=by
 obtain⟨p1,c1,rfl,r1⟩:=h1.sh
 obtain⟨p2,c2,rfl,r2⟩:=h2.sh
 have hml:=gV x.natAbs y.natAbs
 have hml':ae (x.natAbs*y.natAbs)≤ae x.natAbs+ae y.natAbs:=hml
 have hx':ae x.natAbs≤50000:=hx
 have hy':ae y.natAbs≤50000:=hy
 exact z2f (yc x y (x*y) (x.natAbs*y.natAbs) p1 c1 p2 c2 w (fun p1 c1 p2 c2 W h1 h2=>nH _ _ _ _ (by omega) (by omega) W h1 h2) (fun s d W h=>iM _ _ _ _ (xm x y) (by omega) W h) r1 r2)
theorem wH {w:World}{v:Value}{xs:List Nat}{g:Nat}{b:Bool}{q:Option Addr}{l c:Nat}{T:TypeId}{fz:Nat × Nat}(hg:w.heap[g]? = some (.cells #[.bool b,.slice q l c] T fz))(h:Rd .u32 w v xs)(i:Nat)(u:Value):Rd .u32 (w.setCell ⟨g,i,none⟩ u) v xs:=by
 rcases h with h|⟨b',o,c',h1,h2,h3,h4,h5⟩
 · exact Or.inl h
 · refine Or.inr ⟨b',o,c',h1,h2,h3,by simpa [World.setCell] using h4,fun j hj=>?_⟩
   have h6:=h5 j hj
   have hne:b'≠g:=by
    intro e
    subst e
    simp only[World.cell?,hg]at h6
    match hk:o+j with
    | 0=>rw[hk]at h6;simp at h6
    | 1=>rw[hk]at h6;simp at h6
    | n+2=>rw[hk]at h6;simp at h6
   exact(yC hne).trans h6
end Go.Proofs.YtmigpoiajkihhaaGreatDoor
set_option maxRecDepth 100000
set_option maxHeartbeats 20000000
open Go.Lib (hid)
namespace Go.Proofs.YtmigpoiajkihhaaGreatDoor
open Go.RowKit Go.Gb
theorem sO {W W':World}{g:Nat}{o:Obj}(h:W.heap[g]? = some o)(hb:Below W.heap.size W W'):W'.heap[g]? = some o:=by
 rw[hb.block g (Array.getElem?_eq_some_iff.1 h).1];exact h
theorem heap_set {W:World}{g i:Nat}{b b':Bool}{q:Option Addr}{l c:Nat}{T:TypeId}{fz:Nat × Nat}(h:W.heap[g]? = some (.cells #[.bool b,.slice q l c] T fz))(hi:i=0):(W.setCell ⟨g,i,none⟩ (.bool b')).heap[g]? = some (.cells #[.bool b',.slice q l c] T fz):=by
 subst hi
 simp only[World.setCell,Array.getElem?_modify,h]
 simp
theorem yg (ba bb ob r:Bool)(p1:Option Addr)(l1 c1:Nat)(p2:Option Addr)(l2 c2:Nat)(m n L:Nat)(w:World)
 (hO:∀ W,Below w.heap.size w W→Calls Tryz.prog 121 #[.agg #[.bool bb,.slice p2 l2 c2]] W fun e w'=>∃ p c,e=.returned (.agg #[.bool ob,.slice p l2 c])∧Rd .u32 w' (.slice p l2 c) (ah m)∧Below W.heap.size W w')
 (hQ:∀ W p c,Below w.heap.size w W→Rd .u32 W (.slice p l2 c) (ah m)→Calls Tryz.prog 100 #[.agg #[.bool ba,.slice p1 l1 c1],.agg #[.bool ob,.slice p l2 c]] W fun e w'=>∃ p' c',e=.returned (.agg #[.bool r,.slice p' L c'])∧Rd .u32 w' (.slice p' L c') (ah n)∧Below W.heap.size W w') :
 Calls Tryz.prog 137 #[.agg #[.bool ba,.slice p1 l1 c1],.agg #[.bool bb,.slice p2 l2 c2]] w fun e w'=>∃ v,e=.returned (.agg #[.bool r,v])∧Rd .u32 w' v (ah n)∧Below w.heap.size w w':=by
 have HO:=hid hO
 have HQ:=hid hQ
 have HW:=hid (((((Below.refl w.heap.size w).alloc (Nat.le_refl _) (.cells #[.bool ba,.slice p1 l1 c1] 50)).alloc (by simp) (.cells #[.bool bb,.slice p2 l2 c2] 50)).alloc (by simp;omega) (.cells #[.bool false,.slice none 0 0] 50)))
 have AH:=hid (show(((w.alloc (.cells #[.bool ba,.slice p1 l1 c1] 50)).alloc (.cells #[.bool bb,.slice p2 l2 c2] 50)).alloc (.cells #[.bool false,.slice none 0 0] 50)).heap[w.heap.size+1+1]? = some (.cells #[.bool false,.slice none 0 0] 50 (0,0)) by
  rw[show w.heap.size+1+1=((w.alloc (.cells #[.bool ba,.slice p1 l1 c1] 50)).alloc (.cells #[.bool bb,.slice p2 l2 c2] 50)).heap.size by simp];exact heap_alloc_new _ _)
 have A00:=hid (show(((w.alloc (.cells #[.bool ba,.slice p1 l1 c1] 50)).alloc (.cells #[.bool bb,.slice p2 l2 c2] 50)).alloc (.cells #[.bool false,.slice none 0 0] 50)).cell? ⟨w.heap.size,0,none⟩=some (.bool ba) by rw[eB (by simp;omega),eB (by simp),oh rfl];rfl)
 have A01:=hid (show(((w.alloc (.cells #[.bool ba,.slice p1 l1 c1] 50)).alloc (.cells #[.bool bb,.slice p2 l2 c2] 50)).alloc (.cells #[.bool false,.slice none 0 0] 50)).cell? ⟨w.heap.size,1,none⟩=some (.slice p1 l1 c1) by rw[eB (by simp;omega),eB (by simp),oh rfl];rfl)
 have A10:=hid (show(((w.alloc (.cells #[.bool ba,.slice p1 l1 c1] 50)).alloc (.cells #[.bool bb,.slice p2 l2 c2] 50)).alloc (.cells #[.bool false,.slice none 0 0] 50)).cell? ⟨w.heap.size+1,0,none⟩=some (.bool bb) by rw[eB (by simp),oh (by simp)];rfl)
 have A11:=hid (show(((w.alloc (.cells #[.bool ba,.slice p1 l1 c1] 50)).alloc (.cells #[.bool bb,.slice p2 l2 c2] 50)).alloc (.cells #[.bool false,.slice none 0 0] 50)).cell? ⟨w.heap.size+1,1,none⟩=some (.slice p2 l2 c2) by rw[eB (by simp),oh (by simp)];rfl)
 have A20:=hid (show(((w.alloc (.cells #[.bool ba,.slice p1 l1 c1] 50)).alloc (.cells #[.bool bb,.slice p2 l2 c2] 50)).alloc (.cells #[.bool false,.slice none 0 0] 50)).cell? ⟨w.heap.size+1+1,0,none⟩=some (.bool false) by rw[oh (by simp)];rfl)
 have A21:=hid (show(((w.alloc (.cells #[.bool ba,.slice p1 l1 c1] 50)).alloc (.cells #[.bool bb,.slice p2 l2 c2] 50)).alloc (.cells #[.bool false,.slice none 0 0] 50)).cell? ⟨w.heap.size+1+1,1,none⟩=some (.slice none 0 0) by rw[oh (by simp)];rfl)
 have F0:=hid (show(((w.alloc (.cells #[.bool ba,.slice p1 l1 c1] 50)).alloc (.cells #[.bool bb,.slice p2 l2 c2] 50)).alloc (.cells #[.bool false,.slice none 0 0] 50)).frozen? ⟨w.heap.size+1+1,0,none⟩=false by rw[z1W (by simp)])
 have F1:=hid (show(((w.alloc (.cells #[.bool ba,.slice p1 l1 c1] 50)).alloc (.cells #[.bool bb,.slice p2 l2 c2] 50)).alloc (.cells #[.bool false,.slice none 0 0] 50)).frozen? ⟨w.heap.size+1+1,1,none⟩=false by rw[z1W (by simp)])
 clear hO hQ
 go_enter Tryz.func137,Tryz.ntmps137
 go_wp2
 go_region_held3 (fun w'=>w'.cell? ⟨w.heap.size,0,none⟩=some (.bool ba)∧w'.cell? ⟨w.heap.size,1,none⟩=some (.slice p1 l1 c1)∧w'.cell? ⟨w.heap.size+1,0,none⟩=some (.bool bb)∧w'.cell? ⟨w.heap.size+1,1,none⟩=some (.slice p2 l2 c2)) (first|((try go_split_ands);refine⟨?_,?_,?_,?_⟩<;>(first|(with_reducible assumption)|((repeat (first|rw[mo]|rw[eB (by first|assumption|omega|(simp;done)|(simp;omega))]|rw[yC (by omega)]));first|(with_reducible assumption)|(simp;done))))|(go_keep;done))
  (first|(go_at_call 121;refine(HO.out _ ?bd).mono ?_;(case bd=>first|exact HW.out|exact HW.out.drew);rintro e w1 ⟨po,co,rfl,ro,hb1⟩;obtain⟨hc1,hf1⟩:=eP hb1;have hs1:=hb1.size;(try simp at hs1);have q10:w.heap.size<w1.heap.size:=(by omega);have q11:w.heap.size+1<w1.heap.size:=(by omega);have q12:w.heap.size+1+1<w1.heap.size:=(by omega);have s100:w1.cell? ⟨w.heap.size,0,none⟩=some (.bool ba):=(by rw[hc1 _ _ (by first|assumption|omega|(simp;done)|(simp;omega))];first|(with_reducible assumption)|exact A00.out);have s101:w1.cell? ⟨w.heap.size,1,none⟩=some (.slice p1 l1 c1):=(by rw[hc1 _ _ (by first|assumption|omega|(simp;done)|(simp;omega))];first|(with_reducible assumption)|exact A01.out);have s110:w1.cell? ⟨w.heap.size+1,0,none⟩=some (.bool bb):=(by rw[hc1 _ _ (by first|assumption|omega|(simp;done)|(simp;omega))];first|(with_reducible assumption)|exact A10.out);have s111:w1.cell? ⟨w.heap.size+1,1,none⟩=some (.slice p2 l2 c2):=(by rw[hc1 _ _ (by first|assumption|omega|(simp;done)|(simp;omega))];first|(with_reducible assumption)|exact A11.out);have s120:w1.cell? ⟨w.heap.size+1+1,0,none⟩=some (.bool false):=(by rw[hc1 _ _ (by first|assumption|omega|(simp;done)|(simp;omega))];first|(with_reducible assumption)|exact A20.out);have s121:w1.cell? ⟨w.heap.size+1+1,1,none⟩=some (.slice none 0 0):=(by rw[hc1 _ _ (by first|assumption|omega|(simp;done)|(simp;omega))];first|(with_reducible assumption)|exact A21.out);have f10:w1.frozen? ⟨w.heap.size+1+1,0,none⟩=false:=(by rw[hf1 _ _ (by first|assumption|omega|(simp;done)|(simp;omega))];first|(with_reducible assumption)|exact F0.out);have f11:w1.frozen? ⟨w.heap.size+1+1,1,none⟩=false:=(by rw[hf1 _ _ (by first|assumption|omega|(simp;done)|(simp;omega))];first|(with_reducible assumption)|exact F1.out);have HB1:=hid (show Below w.heap.size w w1 from Below.trans HW.out (by first|exact hb1.mono (by first|omega|(simp;omega)|simp)|exact Below.trans (Below.drew (Below.refl _ _)) (hb1.mono (by first|omega|(simp;omega)|simp))));have RO:=hid ro;have hg1:=hid (show w1.heap[w.heap.size+1+1]? = some (.cells #[.bool false,.slice none 0 0] 50 (0,0)) from(by refine sO ?_ hb1;exact AH.out)))|(go_at_call 100;refine(HQ.out w1 po co HB1.out RO.out).mono ?_;rintro e w2 ⟨pv,cv,rfl,rv,hb2⟩;obtain⟨hc2,hf2⟩:=eP hb2;have hs2:=hb2.size;(try simp at hs2);have q20:w.heap.size<w2.heap.size:=(by omega);have q21:w.heap.size+1<w2.heap.size:=(by omega);have q22:w.heap.size+1+1<w2.heap.size:=(by omega);have s200:w2.cell? ⟨w.heap.size,0,none⟩=some (.bool ba):=(by rw[hc2 _ _ (by first|assumption|omega|(simp;done)|(simp;omega))];first|(with_reducible assumption)|exact A00.out);have s201:w2.cell? ⟨w.heap.size,1,none⟩=some (.slice p1 l1 c1):=(by rw[hc2 _ _ (by first|assumption|omega|(simp;done)|(simp;omega))];first|(with_reducible assumption)|exact A01.out);have s210:w2.cell? ⟨w.heap.size+1,0,none⟩=some (.bool bb):=(by rw[hc2 _ _ (by first|assumption|omega|(simp;done)|(simp;omega))];first|(with_reducible assumption)|exact A10.out);have s211:w2.cell? ⟨w.heap.size+1,1,none⟩=some (.slice p2 l2 c2):=(by rw[hc2 _ _ (by first|assumption|omega|(simp;done)|(simp;omega))];first|(with_reducible assumption)|exact A11.out);have s220:w2.cell? ⟨w.heap.size+1+1,0,none⟩=some (.bool false):=(by rw[hc2 _ _ (by first|assumption|omega|(simp;done)|(simp;omega))];first|(with_reducible assumption)|exact A20.out);have s221:w2.cell? ⟨w.heap.size+1+1,1,none⟩=some (.slice none 0 0):=(by rw[hc2 _ _ (by first|assumption|omega|(simp;done)|(simp;omega))];first|(with_reducible assumption)|exact A21.out);have f20:w2.frozen? ⟨w.heap.size+1+1,0,none⟩=false:=(by rw[hf2 _ _ (by first|assumption|omega|(simp;done)|(simp;omega))];first|(with_reducible assumption)|exact F0.out);have f21:w2.frozen? ⟨w.heap.size+1+1,1,none⟩=false:=(by rw[hf2 _ _ (by first|assumption|omega|(simp;done)|(simp;omega))];first|(with_reducible assumption)|exact F1.out);have hg2:=hid (sO hg1.out hb2))|fail)
 all_goals
  go_wp2
  have HB:Below w.heap.size w w2:=HB1.out.trans (hb2.mono HB1.out.size)
  refine bodyPost_ret (v:=.agg #[.bool r,.slice pv L cv]) (by simp[results,Tryz.results137,go_sem,s220,s221]) rfl ⟨_,rfl,?_,?_⟩
  · exact wH (heap_set hg2.out rfl) (wH hg2.out rv 0 _) 1 _
  · exact(HB.setCell (p:=⟨w.heap.size+1+1,0,none⟩) (by show w.heap.size≤w.heap.size+1+1;omega) _).setCell (p:=⟨w.heap.size+1+1,1,none⟩) (by show w.heap.size≤w.heap.size+1+1;omega) _
theorem z3o (u1 u2:Value)(x y:Int)(hx:(ah x.natAbs).length≤50000)(hy:(ah y.natAbs).length≤50000)(w:World)(h1:Rz w u1 x)(h2:Rz w u2 y) :
 Calls Tryz.prog 137 #[u1,u2] w fun e w'=>∃ u,e=.returned u∧Rz w' u (x-y)∧Below w.heap.size w w':=by
 obtain⟨p1,c1,rfl,r1⟩:=iG h1
 obtain⟨p2,c2,rfl,r2⟩:=iG h2
 refine(yg (decide (x<0)) (decide (y<0)) (decide (-y<0)) (decide (x-y<0)) p1 _ c1 p2 _ c2 (-y).natAbs (x-y).natAbs (ah (x-y).natAbs).length w ?_ ?_).mono ?_
 · intro W hW
   have h:=qY _ y (by omega) W (Rz.below ⟨_,rfl,r2⟩ hW)
   exact pU rfl (by rw[Int.natAbs_neg]) h
 · intro W p c hW hr
   have h:=z3n (.agg #[.bool (decide (x<0)),.slice p1 (ah x.natAbs).length c1]) (.agg #[.bool (decide (-y<0)),.slice p (ah y.natAbs).length c]) x (-y) hx (by rw[Int.natAbs_neg];exact hy) W (Rz.below ⟨_,rfl,r1⟩ hW) ⟨_,rfl,hr⟩
   rw[← Int.sub_eq_add_neg]at h
   exact pU rfl rfl h
 · rintro e w' ⟨v,e1,e2,e3⟩
   exact⟨_,e1,⟨_,rfl,e2⟩,e3⟩
end Go.Proofs.YtmigpoiajkihhaaGreatDoor
set_option maxRecDepth 100000
set_option maxHeartbeats 20000000
namespace Go.Proofs.YtmigpoiajkihhaaGreatDoor
open Go.RowKit Go.Gb
theorem z1P (ba bb r:Bool)(p1:Option Addr)(l1 c1:Nat)(p2:Option Addr)(l2 c2:Nat)(L:Nat)(s:Int)(w:World)
 (hs:s=if r=true then -1 else if 0<L then 1 else 0)
 (hM:∀ W,Below w.heap.size w W→Calls Tryz.prog 137 #[.agg #[.bool ba,.slice p1 l1 c1],.agg #[.bool bb,.slice p2 l2 c2]] W fun e w'=>∃ p c,e=.returned (.agg #[.bool r,.slice p L c])∧Below W.heap.size W w') :
 CR 90 #[.agg #[.bool ba,.slice p1 l1 c1],.agg #[.bool bb,.slice p2 l2 c2]] w (.int .i64 s):=by
 have HM:=Lib.hid hM
 have HS:=Lib.hid (fun W p c=>nK r p L c s hs W)
 have HW:=Lib.hid (((Below.refl w.heap.size w).alloc (Nat.le_refl _) (.cells #[.bool ba,.slice p1 l1 c1] 50)).alloc (by simp) (.cells #[.bool bb,.slice p2 l2 c2] 50))
 clear hM hs
 go_enter Tryz.func90,Tryz.ntmps90
 go_wp2_with fail
 refine(HM.out _ HW.out).mono ?_
 rintro e w1 ⟨p,c,rfl,hb1⟩
 have HB1:=Lib.hid (HW.out.trans (hb1.mono HW.out.size))
 clear hb1
 go_wp2_with fail
 refine(HS.out w1 p c).mono ?_
 rintro e w2 ⟨rfl,hb⟩
 have HB2:=Lib.hid (HB1.out.trans (hb.mono HB1.out.size))
 clear hb
 go_wp2
 go_ret
 exact⟨rfl,HB2.out⟩
open Go.RowKit Go.Gb
theorem zCmp (u1 u2:Value)(x y:Int)(hx:(ah x.natAbs).length≤50000)(hy:(ah y.natAbs).length≤50000)(w:World)(h1:Rz w u1 x)(h2:Rz w u2 y) :
 CR 90 #[u1,u2] w (.int .i64 (cmpZ x y)):=by
 obtain⟨p1,c1,rfl,r1⟩:=iG h1
 obtain⟨p2,c2,rfl,r2⟩:=iG h2
 refine z1P _ _ (decide (x-y<0)) p1 _ c1 p2 _ c2 (ah (x-y).natAbs).length (cmpZ x y) w ?_ ?_
 · have hl:=mV (x-y).natAbs
   rcases Int.lt_trichotomy x y with h|h|h
   · rw[nD h,if_pos (decide_eq_true (by omega))]
   · subst h
     rw[qH,Int.sub_self]
     simp[aL]
   · rw[nE h,if_neg (by rw[decide_eq_false (by omega)];simp),if_pos]
     exact List.length_pos_iff.2 (by rw[bA (by omega)];simp)
 · intro W hW
   exact(pU rfl rfl (z3o _ _ x y hx hy W (Rz.below ⟨_,rfl,r1⟩ hW) (Rz.below ⟨_,rfl,r2⟩ hW))).mono fun e w' ⟨p,c,e1,_,e3⟩=>⟨p,c,e1,e3⟩
end Go.Proofs.YtmigpoiajkihhaaGreatDoor
