/- texts -/
import Derived.Test.YtkiklcbhglpooaaGreatDoorZd
open Go.Proofs.Tryz
namespace Go.Proofs.YtkiklcbhglpooaaGreatDoor
open Go.RowKit Go.Gb
theorem z4b (a b:Nat)(h:(ag a).length≤50000):(ag (a-b)).length≤1000000:=by have:=aL (Nat.sub_le a b);omega
theorem z3T {f:FuncId}{args:Array Value}{w:World}{z:Int}(h:Calls Tryz.prog f args w fun e w'=>∃ p c,e=.returned (.agg #[.bool (ai z),.slice p (ae z) c])∧RN w' (.slice p (ae z) c) z.natAbs∧Below w.heap.size w w') :
 Calls Tryz.prog f args w fun e w'=>∃ u,e=.returned u∧Rz w' u z∧Below w.heap.size w w' :=
 h.mono fun _ _ ⟨_,_,e,r,hb⟩=>⟨_,e,Rz.mk r,hb⟩
theorem z0u {x y:Int}(h:(ai x==ai y)=true):x+y=(if ai x=true then -((x.natAbs+y.natAbs:Nat):Int) else ((x.natAbs+y.natAbs:Nat):Int)):=by
 unfold ai at *
 by_cases hx:x<0<;>by_cases hy:y<0<;>simp[hx,hy]at h ⊢ <;> omega
theorem pR {x y:Int}(h:(ai x==ai y)=false):(y.natAbs≤x.natAbs→x+y=(if ai x=true then -((x.natAbs-y.natAbs:Nat):Int) else ((x.natAbs-y.natAbs:Nat):Int)))∧(x.natAbs<y.natAbs→x+y=(if ai y=true then -((y.natAbs-x.natAbs:Nat):Int) else ((y.natAbs-x.natAbs:Nat):Int))):=by
 unfold ai at *
 by_cases hx:x<0<;>by_cases hy:y<0<;>simp[hx,hy]at h ⊢ <;> constructor<;>intro h2<;>omega
theorem z5a (u1 u2:Value)(x y:Int)(hx:(ag x.natAbs).length≤50000)(hy:(ag y.natAbs).length≤50000)(w:World)(h1:Rz w u1 x)(h2:Rz w u2 y) :
 Calls Tryz.prog 77 #[u1,u2] w fun e w'=>∃ u,e=.returned u∧Rz w' u (x+y)∧Below w.heap.size w w':=by
 obtain⟨p1,c1,rfl,r1⟩:=h1.sh;obtain⟨p2,c2,rfl,r2⟩:=h2.sh;have hsl:=fB hx hy;have hx':ah x.natAbs≤50000:=hx;have hy':ah y.natAbs≤50000:=hy;have hsl':ah (x.natAbs+y.natAbs)≤50001:=hsl;have hd1:ah (x.natAbs-y.natAbs)≤1000000:=z4b _ _ hx;have hd2:ah (y.natAbs-x.natAbs)≤1000000:=z4b _ _ hy;refine z3T ?_
 cases hs:(ai x==ai y) with
 | true=>exact zy x y (x+y) (x.natAbs+y.natAbs) hs p1 c1 p2 c2 w (fun p1 c1 p2 c2 W h1 h2=>z5L _ _ _ _ (by omega) (by omega) W h1 h2) (fun s d W h=>ja _ _ _ _ (z0u hs) (by omega) W h) r1 r2
 | false =>
   rcases Nat.lt_or_ge x.natAbs y.natAbs with h|h
   · exact z3v x y (x+y) (y.natAbs-x.natAbs) (-1) (by decide) hs p1 c1 p2 c2 w (fun p1 c1 p2 c2 W h1 h2=>by have k:=cCmp (.slice p1 (ae x) c1) (.slice p2 (ae y) c2) x.natAbs y.natAbs (by omega) W h1 h2;rwa [gJ h]at k) (fun p1 c1 p2 c2 W h1 h2=>z1A _ _ _ _ (by omega) (by omega) W h1 h2) (fun s d W h'=>ja _ _ _ _ ((pR hs).2 h) hd2 W h') r1 r2
   · exact z3w x y (x+y) (x.natAbs-y.natAbs) (cmpN x.natAbs y.natAbs) (by unfold cmpN;split<;>(try split)<;>omega) hs p1 c1 p2 c2 w (fun p1 c1 p2 c2 W h1 h2=>cCmp _ _ _ _ (by omega) W h1 h2) (fun p1 c1 p2 c2 W h1 h2=>z1A _ _ _ _ h (by omega) W h1 h2) (fun s d W h'=>ja _ _ _ _ ((pR hs).1 h) hd1 W h') r1 r2
theorem yo (x y:Int):x*y=(if (decide (x<0) != decide (y<0)) then -((x.natAbs*y.natAbs:Nat):Int) else ((x.natAbs*y.natAbs:Nat):Int)):=by
 rw[Int.natCast_mul];by_cases hx:x<0
 · by_cases hy:y<0
   · have e1:(x.natAbs:Int) = -x:=by omega
     have e2:(y.natAbs:Int) = -y:=by omega
     rw[e1,e2];simp[hx,hy,Int.neg_mul,Int.mul_neg]
   · have e1:(x.natAbs:Int) = -x:=by omega
     have e2:(y.natAbs:Int)=y:=by omega
     rw[e1,e2];simp[hx,hy,Int.neg_mul]
 · by_cases hy:y<0
   · have e1:(x.natAbs:Int)=x:=by omega
     have e2:(y.natAbs:Int) = -y:=by omega
     rw[e1,e2];simp[hx,hy,Int.mul_neg]
   · have e1:(x.natAbs:Int)=x:=by omega
     have e2:(y.natAbs:Int)=y:=by omega
     rw[e1,e2];simp[hx,hy]
theorem z4Y (u1 u2:Value)(x y:Int)(hx:(ag x.natAbs).length≤50000)(hy:(ag y.natAbs).length≤50000)(w:World)(h1:Rz w u1 x)(h2:Rz w u2 y) :
 Calls Tryz.prog 80 #[u1,u2] w fun e w'=>∃ u,e=.returned u∧Rz w' u (x*y)∧Below w.heap.size w w':=by
 obtain⟨p1,c1,rfl,r1⟩:=h1.sh;obtain⟨p2,c2,rfl,r2⟩:=h2.sh;have hml:=fA x.natAbs y.natAbs;have hml':ah (x.natAbs*y.natAbs)≤ah x.natAbs+ah y.natAbs:=hml;have hx':ah x.natAbs≤50000:=hx;have hy':ah y.natAbs≤50000:=hy;exact z3T (zx x y (x*y) (x.natAbs*y.natAbs) p1 c1 p2 c2 w (fun p1 c1 p2 c2 W h1 h2=>og _ _ _ _ (by omega) (by omega) W h1 h2) (fun s d W h=>ja _ _ _ _ (yo x y) (by omega) W h) r1 r2)
theorem xz {w:World}{v:Value}{xs:List Nat}{g:Nat}{b:Bool}{q:Option Addr}{l c:Nat}{T:TypeId}{fz:Nat × Nat}(hg:w.heap[g]? = some (.cells #[.bool b,.slice q l c] T fz))(h:Rd .u32 w v xs)(i:Nat)(u:Value):Rd .u32 (w.setCell ⟨g,i,none⟩ u) v xs:=by
 rcases h with h|⟨b',o,c',h1,h2,h3,h4,h5⟩
 · exact Or.inl h
 · refine Or.inr ⟨b',o,c',h1,h2,h3,by simpa [World.setCell] using h4,fun j hj=>?_⟩
   have h6:=h5 j hj
   have hne:b'≠g:=by
    intro e;subst e;simp only[World.cell?,hg]at h6
    match hk:o+j with
    | 0=>rw[hk]at h6;simp at h6
    | 1=>rw[hk]at h6;simp at h6
    | n+2=>rw[hk]at h6;simp at h6
   exact(zR hne).trans h6
set_option maxRecDepth 100000
set_option maxHeartbeats 20000000
open Go.Lib (hid)
theorem uq {W W':World}{g:Nat}{o:Obj}(h:W.heap[g]? = some o)(hb:Below W.heap.size W W'):W'.heap[g]? = some o:=by
 rw[hb.block g (Array.getElem?_eq_some_iff.1 h).1];exact h
theorem heap_set {W:World}{g i:Nat}{b b':Bool}{q:Option Addr}{l c:Nat}{T:TypeId}{fz:Nat × Nat}(h:W.heap[g]? = some (.cells #[.bool b,.slice q l c] T fz))(hi:i=0):(W.setCell ⟨g,i,none⟩ (.bool b')).heap[g]? = some (.cells #[.bool b',.slice q l c] T fz):=by
 subst hi;simp only[World.setCell,Array.getElem?_modify,h];simp
theorem zA (ba bb ob r:Bool)(p1:Option Addr)(l1 c1:Nat)(p2:Option Addr)(l2 c2:Nat)(m n L:Nat)(w:World)
 (hO:∀ W,Below w.heap.size w W→Calls Tryz.prog 148 #[.agg #[.bool bb,.slice p2 l2 c2]] W fun e w'=>∃ p c,e=.returned (.agg #[.bool ob,.slice p l2 c])∧Rd .u32 w' (.slice p l2 c) (ag m)∧Below W.heap.size W w')
 (hQ:∀ W p c,Below w.heap.size w W→Rd .u32 W (.slice p l2 c) (ag m)→Calls Tryz.prog 77 #[.agg #[.bool ba,.slice p1 l1 c1],.agg #[.bool ob,.slice p l2 c]] W fun e w'=>∃ p' c',e=.returned (.agg #[.bool r,.slice p' L c'])∧Rd .u32 w' (.slice p' L c') (ag n)∧Below W.heap.size W w') :
 Calls Tryz.prog 177 #[.agg #[.bool ba,.slice p1 l1 c1],.agg #[.bool bb,.slice p2 l2 c2]] w fun e w'=>∃ v,e=.returned (.agg #[.bool r,v])∧Rd .u32 w' v (ag n)∧Below w.heap.size w w':=by
 have HO:=hid hO;have HQ:=hid hQ;have HW:=hid (((((Below.refl w.heap.size w).alloc (Nat.le_refl _) (.cells #[.bool ba,.slice p1 l1 c1] 48)).alloc (by simp) (.cells #[.bool bb,.slice p2 l2 c2] 48)).alloc (by simp;omega) (.cells #[.bool false,.slice none 0 0] 48)))
 have AH:=hid (show(((w.alloc (.cells #[.bool ba,.slice p1 l1 c1] 48)).alloc (.cells #[.bool bb,.slice p2 l2 c2] 48)).alloc (.cells #[.bool false,.slice none 0 0] 48)).heap[w.heap.size+1+1]? = some (.cells #[.bool false,.slice none 0 0] 48 (0,0)) by
  rw[show w.heap.size+1+1=((w.alloc (.cells #[.bool ba,.slice p1 l1 c1] 48)).alloc (.cells #[.bool bb,.slice p2 l2 c2] 48)).heap.size by simp];exact heap_alloc_new _ _)
 have A00:=hid (show(((w.alloc (.cells #[.bool ba,.slice p1 l1 c1] 48)).alloc (.cells #[.bool bb,.slice p2 l2 c2] 48)).alloc (.cells #[.bool false,.slice none 0 0] 48)).cell? ⟨w.heap.size,0,none⟩=some (.bool ba) by rw[eY (by simp;omega),eY (by simp),pE rfl];rfl);have A01:=hid (show(((w.alloc (.cells #[.bool ba,.slice p1 l1 c1] 48)).alloc (.cells #[.bool bb,.slice p2 l2 c2] 48)).alloc (.cells #[.bool false,.slice none 0 0] 48)).cell? ⟨w.heap.size,1,none⟩=some (.slice p1 l1 c1) by rw[eY (by simp;omega),eY (by simp),pE rfl];rfl);have A10:=hid (show(((w.alloc (.cells #[.bool ba,.slice p1 l1 c1] 48)).alloc (.cells #[.bool bb,.slice p2 l2 c2] 48)).alloc (.cells #[.bool false,.slice none 0 0] 48)).cell? ⟨w.heap.size+1,0,none⟩=some (.bool bb) by rw[eY (by simp),pE (by simp)];rfl);have A11:=hid (show(((w.alloc (.cells #[.bool ba,.slice p1 l1 c1] 48)).alloc (.cells #[.bool bb,.slice p2 l2 c2] 48)).alloc (.cells #[.bool false,.slice none 0 0] 48)).cell? ⟨w.heap.size+1,1,none⟩=some (.slice p2 l2 c2) by rw[eY (by simp),pE (by simp)];rfl);have A20:=hid (show(((w.alloc (.cells #[.bool ba,.slice p1 l1 c1] 48)).alloc (.cells #[.bool bb,.slice p2 l2 c2] 48)).alloc (.cells #[.bool false,.slice none 0 0] 48)).cell? ⟨w.heap.size+1+1,0,none⟩=some (.bool false) by rw[pE (by simp)];rfl);have A21:=hid (show(((w.alloc (.cells #[.bool ba,.slice p1 l1 c1] 48)).alloc (.cells #[.bool bb,.slice p2 l2 c2] 48)).alloc (.cells #[.bool false,.slice none 0 0] 48)).cell? ⟨w.heap.size+1+1,1,none⟩=some (.slice none 0 0) by rw[pE (by simp)];rfl);have F0:=hid (show(((w.alloc (.cells #[.bool ba,.slice p1 l1 c1] 48)).alloc (.cells #[.bool bb,.slice p2 l2 c2] 48)).alloc (.cells #[.bool false,.slice none 0 0] 48)).frozen? ⟨w.heap.size+1+1,0,none⟩=false by rw[z3F (by simp)]);have F1:=hid (show(((w.alloc (.cells #[.bool ba,.slice p1 l1 c1] 48)).alloc (.cells #[.bool bb,.slice p2 l2 c2] 48)).alloc (.cells #[.bool false,.slice none 0 0] 48)).frozen? ⟨w.heap.size+1+1,1,none⟩=false by rw[z3F (by simp)]);clear hO hQ;go_enter func177,ntmps177
 go_wp2
 go_region_held3 (fun w'=>w'.cell? ⟨w.heap.size,0,none⟩=some (.bool ba)∧w'.cell? ⟨w.heap.size,1,none⟩=some (.slice p1 l1 c1)∧w'.cell? ⟨w.heap.size+1,0,none⟩=some (.bool bb)∧w'.cell? ⟨w.heap.size+1,1,none⟩=some (.slice p2 l2 c2)) (first|((try go_split_ands);refine⟨?_,?_,?_,?_⟩<;>(first|(with_reducible assumption)|((repeat (first|rw[ny]|rw[eY (by first|assumption|omega|(simp;done)|(simp;omega))]|rw[zR (by omega)]));first|(with_reducible assumption)|(simp;done))))|(go_keep;done))
  (first|(go_at_call 148;refine(HO.o _ ?bd).mono ?_;(case bd=>first|exact HW.o|exact HW.o.drew);rintro e w1 ⟨po,co,rfl,ro,hb1⟩;obtain⟨hc1,hf1⟩:=fM hb1;have hs1:=hb1.size;(try simp at hs1);have q10:w.heap.size<w1.heap.size:=(by omega);have q11:w.heap.size+1<w1.heap.size:=(by omega);have q12:w.heap.size+1+1<w1.heap.size:=(by omega);have s100:w1.cell? ⟨w.heap.size,0,none⟩=some (.bool ba):=(by rw[hc1 _ _ (by first|assumption|omega|(simp;done)|(simp;omega))];first|(with_reducible assumption)|exact A00.o);have s101:w1.cell? ⟨w.heap.size,1,none⟩=some (.slice p1 l1 c1):=(by rw[hc1 _ _ (by first|assumption|omega|(simp;done)|(simp;omega))];first|(with_reducible assumption)|exact A01.o);have s110:w1.cell? ⟨w.heap.size+1,0,none⟩=some (.bool bb):=(by rw[hc1 _ _ (by first|assumption|omega|(simp;done)|(simp;omega))];first|(with_reducible assumption)|exact A10.o);have s111:w1.cell? ⟨w.heap.size+1,1,none⟩=some (.slice p2 l2 c2):=(by rw[hc1 _ _ (by first|assumption|omega|(simp;done)|(simp;omega))];first|(with_reducible assumption)|exact A11.o);have s120:w1.cell? ⟨w.heap.size+1+1,0,none⟩=some (.bool false):=(by rw[hc1 _ _ (by first|assumption|omega|(simp;done)|(simp;omega))];first|(with_reducible assumption)|exact A20.o);have s121:w1.cell? ⟨w.heap.size+1+1,1,none⟩=some (.slice none 0 0):=(by rw[hc1 _ _ (by first|assumption|omega|(simp;done)|(simp;omega))];first|(with_reducible assumption)|exact A21.o);have f10:w1.frozen? ⟨w.heap.size+1+1,0,none⟩=false:=(by rw[hf1 _ _ (by first|assumption|omega|(simp;done)|(simp;omega))];first|(with_reducible assumption)|exact F0.o);have f11:w1.frozen? ⟨w.heap.size+1+1,1,none⟩=false:=(by rw[hf1 _ _ (by first|assumption|omega|(simp;done)|(simp;omega))];first|(with_reducible assumption)|exact F1.o);have u6:=hid (show Below w.heap.size w w1 from Below.trans HW.o (by first|exact hb1.mono (by first|omega|(simp;omega)|simp)|exact Below.trans (Below.drew (Below.refl _ _)) (hb1.mono (by first|omega|(simp;omega)|simp))));have RO:=hid ro;have hg1:=hid (show w1.heap[w.heap.size+1+1]? = some (.cells #[.bool false,.slice none 0 0] 48 (0,0)) from(by refine uq ?_ hb1;exact AH.o)))|(go_at_call 77;refine(HQ.o w1 po co u6.o RO.o).mono ?_;rintro e w2 ⟨pv,cv,rfl,rv,hb2⟩;obtain⟨hc2,hf2⟩:=fM hb2;have hs2:=hb2.size;(try simp at hs2);have q20:w.heap.size<w2.heap.size:=(by omega);have q21:w.heap.size+1<w2.heap.size:=(by omega);have q22:w.heap.size+1+1<w2.heap.size:=(by omega);have s200:w2.cell? ⟨w.heap.size,0,none⟩=some (.bool ba):=(by rw[hc2 _ _ (by first|assumption|omega|(simp;done)|(simp;omega))];first|(with_reducible assumption)|exact A00.o);have s201:w2.cell? ⟨w.heap.size,1,none⟩=some (.slice p1 l1 c1):=(by rw[hc2 _ _ (by first|assumption|omega|(simp;done)|(simp;omega))];first|(with_reducible assumption)|exact A01.o);have s210:w2.cell? ⟨w.heap.size+1,0,none⟩=some (.bool bb):=(by rw[hc2 _ _ (by first|assumption|omega|(simp;done)|(simp;omega))];first|(with_reducible assumption)|exact A10.o);have s211:w2.cell? ⟨w.heap.size+1,1,none⟩=some (.slice p2 l2 c2):=(by rw[hc2 _ _ (by first|assumption|omega|(simp;done)|(simp;omega))];first|(with_reducible assumption)|exact A11.o);have s220:w2.cell? ⟨w.heap.size+1+1,0,none⟩=some (.bool false):=(by rw[hc2 _ _ (by first|assumption|omega|(simp;done)|(simp;omega))];first|(with_reducible assumption)|exact A20.o);have s221:w2.cell? ⟨w.heap.size+1+1,1,none⟩=some (.slice none 0 0):=(by rw[hc2 _ _ (by first|assumption|omega|(simp;done)|(simp;omega))];first|(with_reducible assumption)|exact A21.o);have f20:w2.frozen? ⟨w.heap.size+1+1,0,none⟩=false:=(by rw[hf2 _ _ (by first|assumption|omega|(simp;done)|(simp;omega))];first|(with_reducible assumption)|exact F0.o);have f21:w2.frozen? ⟨w.heap.size+1+1,1,none⟩=false:=(by rw[hf2 _ _ (by first|assumption|omega|(simp;done)|(simp;omega))];first|(with_reducible assumption)|exact F1.o);have hg2:=hid (uq hg1.o hb2))|fail)
 all_goals
  go_wp2;have HB:Below w.heap.size w w2:=u6.o.trans (hb2.mono u6.o.size);refine bodyPost_ret (v:=.agg #[.bool r,.slice pv L cv]) (by simp[results,results177,go_sem,s220,s221]) rfl ⟨_,rfl,?_,?_⟩
  · exact xz (heap_set hg2.o rfl) (xz hg2.o rv 0 _) 1 _
  · exact(HB.setCell (p:=⟨w.heap.size+1+1,0,none⟩) (by show w.heap.size≤w.heap.size+1+1;omega) _).setCell (p:=⟨w.heap.size+1+1,1,none⟩) (by show w.heap.size≤w.heap.size+1+1;omega) _
theorem z5b (u1 u2:Value)(x y:Int)(hx:(ag x.natAbs).length≤50000)(hy:(ag y.natAbs).length≤50000)(w:World)(h1:Rz w u1 x)(h2:Rz w u2 y) :
 Calls Tryz.prog 177 #[u1,u2] w fun e w'=>∃ u,e=.returned u∧Rz w' u (x-y)∧Below w.heap.size w w':=by
 obtain⟨p1,c1,rfl,r1⟩:=jh h1;obtain⟨p2,c2,rfl,r2⟩:=jh h2;refine(zA (decide (x<0)) (decide (y<0)) (decide (-y<0)) (decide (x-y<0)) p1 _ c1 p2 _ c2 (-y).natAbs (x-y).natAbs (ag (x-y).natAbs).length w ?_ ?_).mono ?_
 · intro W hW
   have h:=zN _ y (by omega) W (Rz.below ⟨_,rfl,r2⟩ hW);exact qU rfl (by rw[Int.natAbs_neg]) h
 · intro W p c hW hr
   have h:=z5a (.agg #[.bool (decide (x<0)),.slice p1 (ag x.natAbs).length c1]) (.agg #[.bool (decide (-y<0)),.slice p (ag y.natAbs).length c]) x (-y) hx (by rw[Int.natAbs_neg];exact hy) W (Rz.below ⟨_,rfl,r1⟩ hW) ⟨_,rfl,hr⟩;rw[← Int.sub_eq_add_neg]at h;exact qU rfl rfl h
 · rintro e w' ⟨v,e1,e2,e3⟩
   exact⟨_,e1,⟨_,rfl,e2⟩,e3⟩
end Go.Proofs.YtkiklcbhglpooaaGreatDoor
set_option maxRecDepth 100000
set_option maxHeartbeats 20000000
namespace Go.Proofs.YtkiklcbhglpooaaGreatDoor
open Go.RowKit Go.Gb
theorem z3x (ba bb r:Bool)(p1:Option Addr)(l1 c1:Nat)(p2:Option Addr)(l2 c2:Nat)(L:Nat)(s:Int)(w:World)
 (hs:s=if r=true then -1 else if 0<L then 1 else 0)
 (hM:∀ W,Below w.heap.size w W→Calls Tryz.prog 177 #[.agg #[.bool ba,.slice p1 l1 c1],.agg #[.bool bb,.slice p2 l2 c2]] W fun e w'=>∃ p c,e=.returned (.agg #[.bool r,.slice p L c])∧Below W.heap.size W w') :
 CR 135 #[.agg #[.bool ba,.slice p1 l1 c1],.agg #[.bool bb,.slice p2 l2 c2]] w (.int .i64 s):=by
 have HM:=Lib.hid hM;have HS:=Lib.hid (fun W p c=>oq r p L c s hs W);have HW:=Lib.hid (((Below.refl w.heap.size w).alloc (Nat.le_refl _) (.cells #[.bool ba,.slice p1 l1 c1] 48)).alloc (by simp) (.cells #[.bool bb,.slice p2 l2 c2] 48));clear hM hs;go_enter func135,ntmps135
 go_wp2_with fail
 refine(HM.o _ HW.o).mono ?_;rintro e w1 ⟨p,c,rfl,hb1⟩;have u6:=Lib.hid (HW.o.trans (hb1.mono HW.o.size));clear hb1;go_wp2_with fail
 refine(HS.o w1 p c).mono ?_;rintro e w2 ⟨rfl,hb⟩;have wu:=Lib.hid (u6.o.trans (hb.mono u6.o.size));clear hb;go_wp2;go_ret
 exact⟨rfl,wu.o⟩
theorem zCmp (u1 u2:Value)(x y:Int)(hx:(ag x.natAbs).length≤50000)(hy:(ag y.natAbs).length≤50000)(w:World)(h1:Rz w u1 x)(h2:Rz w u2 y) :
 CR 135 #[u1,u2] w (.int .i64 (cmpZ x y)):=by
 obtain⟨p1,c1,rfl,r1⟩:=jh h1;obtain⟨p2,c2,rfl,r2⟩:=jh h2;refine z3x _ _ (decide (x-y<0)) p1 _ c1 p2 _ c2 (ag (x-y).natAbs).length (cmpZ x y) w ?_ ?_
 · have hl:=rO (x-y).natAbs
   rcases Int.lt_trichotomy x y with h|h|h
   · rw[o6 h,if_pos (decide_eq_true (by omega))]
   · subst h
     rw[rZ,Int.sub_self];simp[aN]
   · rw[o7 h,if_neg (by rw[decide_eq_false (by omega)];simp),if_pos]
     exact List.length_pos_iff.2 (by rw[bG (by omega)];simp)
 · intro W hW
   exact(qU rfl rfl (z5b _ _ x y hx hy W (Rz.below ⟨_,rfl,r1⟩ hW) (Rz.below ⟨_,rfl,r2⟩ hW))).mono fun e w' ⟨p,c,e1,_,e3⟩=>⟨p,c,e1,e3⟩
end Go.Proofs.YtkiklcbhglpooaaGreatDoor
open Go.Lib (hid)
namespace Go.Proofs.YtkiklcbhglpooaaGreatDoor
open Go.RowKit Go.Gb
theorem z4f (p1:Option Addr)(l1 c1:Nat)(p2:Option Addr)(l2 c2:Nat)(bb:Bool)(nq nr:Nat)(q r:Int)(hly:ah nq≤1000000)(hlr:ah nr≤1000000)
 (hq:q=if bb then -(nq:Int) else (nq:Int)) (hr:r=((nr:Nat):Int)) (w:World)
 (hC:∀ W,Below w.heap.size w W→Calls Tryz.prog 126 #[.slice p1 l1 c1,.slice p2 l2 c2] W fun e w'=>∃ p c p' c',e=.returned (.tuple #[.slice p (ah nq) c,.slice p' (ah nr) c'])∧RN w' (.slice p (ah nq) c) nq∧RN w' (.slice p' (ah nr) c') nr∧Below W.heap.size W w') :
 Calls Tryz.prog 131 #[.agg #[.bool false,.slice p1 l1 c1],.agg #[.bool bb,.slice p2 l2 c2]] w fun e w'=>∃ p c p' c',e=.returned (.tuple #[.agg #[.bool (ai q),.slice p (ae q) c],.agg #[.bool (ai r),.slice p' (ae r) c']])∧RN w' (.slice p (ae q) c) q.natAbs∧RN w' (.slice p' (ae r) c') r.natAbs∧Below w.heap.size w w':=by
 have C1:=hid hC;have C2:=hid (fun v W h=>ja bb v _ q hq hly W h);have C3:=hid (fun v W h=>ja false v _ r hr hlr W h);clear hq hr hly hC hlr;go_enter func131,ntmps131
 go_upto_region 1 with fail
 refine aG w [(#[.bool false,.slice p1 l1 c1],48),(#[.bool bb,.slice p2 l2 c2],48),(#[.bool false,.slice none 0 0],48),(#[.bool false,.slice none 0 0],48)] rfl ?_;rintro W0 ⟨k1,k2,k3,k4,hb⟩;obtain ⟨K1,K2,K3,K4⟩:=aP k1 k2 k3 k4;have wo:=hid (show Below w.heap.size w W0 from hb);have d1:=k1.cell (i:=1) rfl;have d2:=k2.cell (i:=1) rfl;clear k1 k2 k3 k4 hb;go_wp2_with fail
 with_reducible refine(C1.o _ wo.o).mono ?_
 rintro e W1 ⟨pq,cq,pr,cr,rfl,rq,rr,hb⟩;clear d1 d2;obtain ⟨K1,K2,K3,K4⟩:=bD hb K1 K2 K3 K4;have u6:=hbt wo hb;have RQ:=hid rq;have RR:=hid rr;have d1:=K1.o.cell (i:=0) rfl;have d2:=K2.o.cell (i:=0) rfl;clear hb rq rr;go_wp2_with fail
 with_reducible refine(C2.o _ _ RQ.o).mono ?_
 rintro e W2 ⟨pu,cu,rfl,ru,hb⟩;clear d1 d2;obtain ⟨K3,K4⟩:=aM hb K3 K4;have wu:=hbt u6 hb;have RU:=hid ru;have RR:=hid (RR.o.below hb);clear hb ru;go_wp2_with fail
 with_reducible refine(C3.o _ _ RR.o).mono ?_
 rintro e W3 ⟨pv,cv,rfl,rv,hb⟩;obtain ⟨K3,K4⟩:=aM hb K3 K4;have ww:=hbt wu hb;have RU:=hid (RU.o.below hb);have RV:=hid rv;obtain ⟨d1,d2⟩:=ay K3.o rfl rfl;obtain ⟨d3,d4⟩:=ay K4.o rfl rfl;have f1:=K3.o.frozen (i:=0);have f2:=K3.o.frozen (i:=1);have f3:=K4.o.frozen (i:=0);have f4:=K4.o.frozen (i:=1);clear hb rv;go_wp2;refine bodyPost_ret (v:=.tuple #[.agg #[.bool (ai q),.slice pu (ae q) cu],.agg #[.bool (ai r),.slice pv (ae r) cv]]) (by simp[results,results131,go_sem,d1,d2,d3,d4]) rfl ⟨_,_,_,_,rfl,?_,?_,?_⟩
 · exact gI (gI RU.o K3.o (dm _ _ _ _) _ _ (dm _ _ _ _)) (jP K4.o (by omega) _ _) (dm _ _ _ _) _ _ (dm _ _ _ _)
 · exact gI (gI RV.o K3.o (dm _ _ _ _) _ _ (dm _ _ _ _)) (jP K4.o (by omega) _ _) (dm _ _ _ _) _ _ (dm _ _ _ _)
 · exact gU (gU ww.o (by omega) _ _) (by omega) _ _
theorem z1O (p1:Option Addr)(l1 c1:Nat)(p2:Option Addr)(l2 c2:Nat)(bb:Bool)(nq  : Nat)(q r:Int)(hly:ah nq≤1000000)
 (hq:q=if (!bb) then -(nq:Int) else (nq:Int)) (hr:r=((0:Nat):Int)) (w:World)
 (hC:∀ W,Below w.heap.size w W→Calls Tryz.prog 126 #[.slice p1 l1 c1,.slice p2 l2 c2] W fun e w'=>∃ p c p' c',e=.returned (.tuple #[.slice p (ah nq) c,.slice p' (ah 0) c'])∧RN w' (.slice p (ah nq) c) nq∧RN w' (.slice p' (ah 0) c') 0∧Below W.heap.size W w') :
 Calls Tryz.prog 131 #[.agg #[.bool true,.slice p1 l1 c1],.agg #[.bool bb,.slice p2 l2 c2]] w fun e w'=>∃ p c p' c',e=.returned (.tuple #[.agg #[.bool (ai q),.slice p (ae q) c],.agg #[.bool (ai r),.slice p' (ae r) c']])∧RN w' (.slice p (ae q) c) q.natAbs∧RN w' (.slice p' (ae r) c') r.natAbs∧Below w.heap.size w w':=by
 have C1:=hid hC;have C2:=hid (fun v W h=>ja (!bb) v _ q hq hly W h);have C3:=hid (fun v W h=>ja false v _ r hr (by rw[ui];decide) W h);rw[ui]at C1;clear hq hr hly hC;go_enter func131,ntmps131
 go_upto_region 1 with fail
 refine aG w [(#[.bool true,.slice p1 l1 c1],48),(#[.bool bb,.slice p2 l2 c2],48),(#[.bool false,.slice none 0 0],48),(#[.bool false,.slice none 0 0],48)] rfl ?_;rintro W0 ⟨k1,k2,k3,k4,hb⟩;obtain ⟨K1,K2,K3,K4⟩:=aP k1 k2 k3 k4;have wo:=hid (show Below w.heap.size w W0 from hb);have d1:=k1.cell (i:=1) rfl;have d2:=k2.cell (i:=1) rfl;clear k1 k2 k3 k4 hb;go_wp2_with fail
 with_reducible refine(C1.o _ wo.o).mono ?_
 rintro e W1 ⟨pq,cq,pr,cr,rfl,rq,rr,hb⟩;clear d1 d2;obtain ⟨K1,K2,K3,K4⟩:=bD hb K1 K2 K3 K4;have u6:=hbt wo hb;have RQ:=hid rq;have RR:=hid rr;have d1:=K1.o.cell (i:=0) rfl;have d2:=K2.o.cell (i:=0) rfl;clear hb rq rr;go_wp2_with fail
 with_reducible refine(C2.o _ _ RQ.o).mono ?_
 rintro e W2 ⟨pu,cu,rfl,ru,hb⟩;clear d1 d2;obtain ⟨K3,K4⟩:=aM hb K3 K4;have wu:=hbt u6 hb;have RU:=hid ru;have RR:=hid (RR.o.below hb);clear hb ru;go_wp2_with fail
 with_reducible refine(C3.o _ _ RR.o).mono ?_
 rintro e W3 ⟨pv,cv,rfl,rv,hb⟩;obtain ⟨K3,K4⟩:=aM hb K3 K4;have ww:=hbt wu hb;have RU:=hid (RU.o.below hb);have RV:=hid rv;obtain ⟨d1,d2⟩:=ay K3.o rfl rfl;obtain ⟨d3,d4⟩:=ay K4.o rfl rfl;have f1:=K3.o.frozen (i:=0);have f2:=K3.o.frozen (i:=1);have f3:=K4.o.frozen (i:=0);have f4:=K4.o.frozen (i:=1);clear hb rv;go_wp2;refine bodyPost_ret (v:=.tuple #[.agg #[.bool (ai q),.slice pu (ae q) cu],.agg #[.bool (ai r),.slice pv (ae r) cv]]) (by simp[results,results131,go_sem,d1,d2,d3,d4]) rfl ⟨_,_,_,_,rfl,?_,?_,?_⟩
 · exact gI (gI RU.o K3.o (dm _ _ _ _) _ _ (dm _ _ _ _)) (jP K4.o (by omega) _ _) (dm _ _ _ _) _ _ (dm _ _ _ _)
 · exact gI (gI RV.o K3.o (dm _ _ _ _) _ _ (dm _ _ _ _)) (jP K4.o (by omega) _ _) (dm _ _ _ _) _ _ (dm _ _ _ _)
 · exact gU (gU ww.o (by omega) _ _) (by omega) _ _
theorem z4e (p1:Option Addr)(l1 c1:Nat)(p2:Option Addr)(l2 c2:Nat)(bb:Bool)(nq nr nb:Nat)(q r:Int)(hly:ah nq≤100000)(hr0:0<ah nr)(hlb:ah nb≤100000)(hnr:nr≤nb)
 (hq:q=if (!bb) then -((nq+1:Nat):Int) else ((nq+1:Nat):Int)) (hr:r=((nb-nr:Nat):Int)) (w:World) (r2:RN w (.slice p2 l2 c2) nb)
 (hC:∀ W,Below w.heap.size w W→Calls Tryz.prog 126 #[.slice p1 l1 c1,.slice p2 l2 c2] W fun e w'=>∃ p c p' c',e=.returned (.tuple #[.slice p (ah nq) c,.slice p' (ah nr) c'])∧RN w' (.slice p (ah nq) c) nq∧RN w' (.slice p' (ah nr) c') nr∧Below W.heap.size W w') :
 Calls Tryz.prog 131 #[.agg #[.bool true,.slice p1 l1 c1],.agg #[.bool bb,.slice p2 l2 c2]] w fun e w'=>∃ p c p' c',e=.returned (.tuple #[.agg #[.bool (ai q),.slice p (ae q) c],.agg #[.bool (ai r),.slice p' (ae r) c']])∧RN w' (.slice p (ae q) c) q.natAbs∧RN w' (.slice p' (ae r) c') r.natAbs∧Below w.heap.size w w':=by
 have C1:=hid hC;have C0:=hid (fun v1 v2 W h1 h2=>z5L v1 v2 nq 1 hly (by rw[jQ];decide) W h1 h2);have C2:=hid (fun v W h=>ja (!bb) v _ q hq (z0J hly) W h);have C3:=hid (fun v W h=>ja false v _ r hr (Nat.le_trans (fH (Nat.sub_le nb nr)) (Nat.le_trans hlb (by decide))) W h);have C4:=hid (fun v1 v2 W h1 h2=>z1A v1 v2 nb nr hnr hlb W h1 h2);have RY:=hid r2;have e0:(ah nr==0)=false:=by rw[beq_eq_false_iff_ne];omega
 have e1:((ah nr:Int)==0)=false:=by rw[beq_eq_false_iff_ne];omega
 have e2:¬ (ah nr:Int)=0:=by omega
 have e3:¬ ah nr=0:=by omega
 clear hq hr hly hC r2 hr0 hlb hnr;go_enter func131,ntmps131
 go_upto_region 1 with fail
 refine aG w [(#[.bool true,.slice p1 l1 c1],48),(#[.bool bb,.slice p2 l2 c2],48),(#[.bool false,.slice none 0 0],48),(#[.bool false,.slice none 0 0],48)] rfl ?_;rintro W0 ⟨k1,k2,k3,k4,hb⟩;obtain ⟨K1,K2,K3,K4⟩:=aP k1 k2 k3 k4;have wo:=hid (show Below w.heap.size w W0 from hb);have d1:=k1.cell (i:=1) rfl;have d2:=k2.cell (i:=1) rfl;clear k1 k2 k3 k4 hb;go_wp2_with fail
 with_reducible refine(C1.o _ wo.o).mono ?_
 rintro e W1 ⟨pq,cq,pr,cr,rfl,rq,rr,hb⟩;clear d1 d2;obtain ⟨K1,K2,K3,K4⟩:=bD hb K1 K2 K3 K4;have u6:=hbt wo hb;have RQ:=hid rq;have RR:=hid rr;have d1:=K1.o.cell (i:=0) rfl;clear hb rq rr;go_wp2_with fail
 with_reducible refine(kJ 1 1 rfl (by decide) W1).mono ?_
 rintro e W2 ⟨pu,cu,rfl,ru,hb⟩;clear d1;obtain ⟨K2,K3,K4⟩:=bX hb K2 K3 K4;have wu:=hbt u6 hb;obtain ⟨RQ,RR⟩:=aM hb RQ RR;have RU:=Lib.hid ru;clear hb ru;go_wp2_with fail
 with_reducible refine(C0.o _ _ _ RQ.o RU.o).mono ?_
 rintro e W4 ⟨ps,cs,rfl,rs,hb⟩;obtain ⟨K2,K3,K4⟩:=bX hb K2 K3 K4;have si:=hbt wu hb;have RS:=hid rs;have RR:=hid (RR.o.below hb);clear hb rs;go_wp2_with fail
 refine oD (by kernel_rfl) 10 2 (fun i=>[36,37,38,39,40,41,42,43,44,45].getD i 0) (RelR [Rel.val (.pointer (some ⟨w.heap.size+1,0,none⟩)),Rel.val (.bool bb),Rel.val (.bool (!bb)),Rel.val (.slice ps (ah (nq+1)) cs),Rel.int q,Rel.val (.pointer (some ⟨w.heap.size+1,1,none⟩)),Rel.val (.slice p2 l2 c2),Rel.val (.slice pr (ah nr) cr),Rel.nat (nb-nr),Rel.int r]) (fun W=>Below W4.heap.size W4 W) (by kernel_rfl) (by kernel_rfl) (by kernel_rfl) (Below.refl _ _).drew ?_ ?_
 · intro su a W i hI hrd him
   have HI:=hid hI;have Hi:=fun(j:Nat) (h:i=j)=>(hid (h▸hrd):Hid (j∈_));clear hI hrd
   match i,him with
   | 0,_ =>
     have Hi:=Hi 0 rfl;have y3:=HI.o.rst 3 rfl;refine wpOp_step rfl (fun K' hK=>?_);have hK:=hid hK;go_simp;exact hK.o _ _ (HI.o.put Hi.o (by decide) rfl (by simp) (by decide) (rfl) (fun j u h=>h) (HI.o.world))
   | 1,_ =>
     have Hi:=Hi 1 rfl
     have x0:a.tmps[36]? = some (.pointer (some ⟨w.heap.size+1,0,none⟩)):=by
       obtain⟨v,y,e⟩:=HI.o.at (i:=0) Hi.o (by kernel_rfl) (by decide);obtain rfl:v=.pointer (some ⟨w.heap.size+1,0,none⟩):=e;exact y
     have rM:=(K2.o.below HI.o.world).cell (i:=0) rfl;refine wpOp_step rfl (fun K' hK=>?_);have hK:=hid hK;go_simp;exact hK.o _ _ (HI.o.put Hi.o (by decide) rfl (by simp) (by decide) (rfl) (fun j u h=>h) (HI.o.world))
   | 2,_ =>
     have Hi:=Hi 2 rfl
     have x1:a.tmps[37]? = some (.bool bb):=by
       obtain⟨v,y,e⟩:=HI.o.at (i:=1) Hi.o (by kernel_rfl) (by decide);obtain rfl:v=.bool bb:=e;exact y
     refine wpOp_step rfl (fun K' hK=>?_);have hK:=hid hK;go_simp;exact hK.o _ _ (HI.o.put Hi.o (by decide) rfl (by simp) (by decide) (rfl) (fun j u h=>h) (HI.o.world))
   | 3,_ =>
     have Hi:=Hi 3 rfl;have y6:=HI.o.rst 6 rfl;refine wpOp_step rfl (fun K' hK=>?_);have hK:=hid hK;go_simp;exact hK.o _ _ (HI.o.put Hi.o (by decide) rfl (by simp) (by decide) (rfl) (fun j u h=>h) (HI.o.world))
   | 4,_ =>
     have Hi:=Hi 4 rfl
     have x2:a.tmps[38]? = some (.bool (!bb)):=by
       obtain⟨v,y,e⟩:=HI.o.at (i:=2) Hi.o (by kernel_rfl) (by decide);obtain rfl:v=.bool (!bb):=e;exact y
     have x3:a.tmps[39]? = some (.slice ps (ah (nq+1)) cs):=by
       obtain⟨v,y,e⟩:=HI.o.at (i:=3) Hi.o (by kernel_rfl) (by decide);obtain rfl:v=.slice ps (ah (nq+1)) cs:=e;exact y
     refine wpOp_step rfl (fun K' hK=>?_);have hK:=hid hK;go_simp;with_reducible refine(C2.o _ _ (RS.o.below HI.o.world)).mono ?_
     rintro e W' ⟨p4,c4,rfl,r4,hb⟩;exact hK.o _ _ (HI.o.put Hi.o (by decide) rfl (by simp) (by decide) (⟨p4,c4,rfl,r4⟩) (fun j u h=>RelR.mono hb j u h) (HI.o.world.trans (hb.mono HI.o.world.size)))
   | 5,_ =>
     have Hi:=Hi 5 rfl;have y3:=HI.o.rst 3 rfl;refine wpOp_step rfl (fun K' hK=>?_);have hK:=hid hK;go_simp;exact hK.o _ _ (HI.o.put Hi.o (by decide) rfl (by simp) (by decide) (rfl) (fun j u h=>h) (HI.o.world))
   | 6,_ =>
     have Hi:=Hi 6 rfl
     have x5:a.tmps[41]? = some (.pointer (some ⟨w.heap.size+1,1,none⟩)):=by
       obtain⟨v,y,e⟩:=HI.o.at (i:=5) Hi.o (by kernel_rfl) (by decide);obtain rfl:v=.pointer (some ⟨w.heap.size+1,1,none⟩):=e;exact y
     have rV:=(K2.o.below HI.o.world).cell (i:=1) rfl;refine wpOp_step rfl (fun K' hK=>?_);have hK:=hid hK;go_simp;exact hK.o _ _ (HI.o.put Hi.o (by decide) rfl (by simp) (by decide) (rfl) (fun j u h=>h) (HI.o.world))
   | 7,_ =>
     have Hi:=Hi 7 rfl;have y7:=HI.o.rst 7 rfl;refine wpOp_step rfl (fun K' hK=>?_);have hK:=hid hK;go_simp;exact hK.o _ _ (HI.o.put Hi.o (by decide) rfl (by simp) (by decide) (rfl) (fun j u h=>h) (HI.o.world))
   | 8,_ =>
     have Hi:=Hi 8 rfl
     have x6:a.tmps[42]? = some (.slice p2 l2 c2):=by
       obtain⟨v,y,e⟩:=HI.o.at (i:=6) Hi.o (by kernel_rfl) (by decide);obtain rfl:v=.slice p2 l2 c2:=e;exact y
     have x7:a.tmps[43]? = some (.slice pr (ah nr) cr):=by
       obtain⟨v,y,e⟩:=HI.o.at (i:=7) Hi.o (by kernel_rfl) (by decide);obtain rfl:v=.slice pr (ah nr) cr:=e;exact y
     refine wpOp_step rfl (fun K' hK=>?_);have hK:=hid hK;go_simp;with_reducible refine(C4.o _ _ _ ((RY.o.below si.o).below HI.o.world) (RR.o.below HI.o.world)).mono ?_
     rintro e W' ⟨p8,c8,rfl,r8,hb⟩;exact hK.o _ _ (HI.o.put Hi.o (by decide) rfl (by simp) (by decide) (⟨p8,c8,rfl,r8⟩) (fun j u h=>RelR.mono hb j u h) (HI.o.world.trans (hb.mono HI.o.world.size)))
   | 9,_ =>
     have Hi:=Hi 9 rfl;obtain⟨v,x8,p8,c8,e,r8⟩:=HI.o.at (i:=8) Hi.o (by kernel_rfl) (by decide);obtain rfl:=e;have x8:a.tmps[44]? = some (.slice p8 (ah (nb-nr)) c8):=x8;have R8:=hid r8;clear r8;refine wpOp_step rfl (fun K' hK=>?_);have hK:=hid hK;go_simp;with_reducible refine(C3.o _ _ R8.o).mono ?_
     rintro e W' ⟨p9,c9,rfl,r9,hb⟩;exact hK.o _ _ (HI.o.put Hi.o (by decide) rfl (by simp) (by decide) (⟨p9,c9,rfl,r9⟩) (fun j u h=>RelR.mono hb j u h) (HI.o.world.trans (hb.mono HI.o.world.size)))
   | n+10,h=>exact absurd h (by omega)
 intro su a W hI w9;obtain⟨v0,x0,e0⟩:=hI.slots 0 (by decide) (w9 0 (by decide));obtain rfl:v0=.pointer (some ⟨w.heap.size+1,0,none⟩):=e0;obtain⟨v1,x1,e1⟩:=hI.slots 1 (by decide) (w9 1 (by decide));obtain rfl:v1=.bool bb:=e1;obtain⟨v2,x2,e2⟩:=hI.slots 2 (by decide) (w9 2 (by decide));obtain rfl:v2=.bool (!bb):=e2;obtain⟨v3,x3,e3⟩:=hI.slots 3 (by decide) (w9 3 (by decide));obtain rfl:v3=.slice ps (ah (nq+1)) cs:=e3;obtain⟨v4,x4,p4,c4,e4,r4⟩:=hI.slots 4 (by decide) (w9 4 (by decide));obtain rfl:=e4;have R4:=hid r4;clear r4;obtain⟨v5,x5,e5⟩:=hI.slots 5 (by decide) (w9 5 (by decide));obtain rfl:v5=.pointer (some ⟨w.heap.size+1,1,none⟩):=e5;obtain⟨v6,x6,e6⟩:=hI.slots 6 (by decide) (w9 6 (by decide));obtain rfl:v6=.slice p2 l2 c2:=e6;obtain⟨v7,x7,e7⟩:=hI.slots 7 (by decide) (w9 7 (by decide));obtain rfl:v7=.slice pr (ah nr) cr:=e7;obtain⟨v8,x8,p8,c8,e8,r8⟩:=hI.slots 8 (by decide) (w9 8 (by decide));obtain rfl:=e8;have R8:=hid r8;clear r8;obtain⟨v9,x9,p9,c9,e9,r9⟩:=hI.slots 9 (by decide) (w9 9 (by decide));obtain rfl:=e9;have R9:=hid r9;clear r9
 have ea:=hI.fin [(36,.pointer (some ⟨w.heap.size+1,0,none⟩)),(37,.bool bb),(38,.bool (!bb)),(39,.slice ps (ah (nq+1)) cs),(40,.agg #[.bool (ai q),.slice p4 (ae q) c4]),(41,.pointer (some ⟨w.heap.size+1,1,none⟩)),(42,.slice p2 l2 c2),(43,.slice pr (ah nr) cr),(44,.slice p8 (ah (nb-nr)) c8),(45,.agg #[.bool (ai r),.slice p9 (ae r) c9])] (by
  intro p hp;simp only[List.mem_cons,List.not_mem_nil,or_false]at hp;rcases hp with rfl|rfl|rfl|rfl|rfl|rfl|rfl|rfl|rfl|rfl
  · exact x0
  · exact x1
  · exact x2
  · exact x3
  · exact x4
  · exact x5
  · exact x6
  · exact x7
  · exact x8
  · exact x9) (by
  intro d hd i him h
  match i,him with
  | 0,_=>exact hd _ (List.Mem.head _) h
  | 1,_=>exact hd _ (List.Mem.tail _ (List.Mem.head _)) h
  | 2,_=>exact hd _ (List.Mem.tail _ (List.Mem.tail _ (List.Mem.head _))) h
  | 3,_=>exact hd _ (List.Mem.tail _ (List.Mem.tail _ (List.Mem.tail _ (List.Mem.head _)))) h
  | 4,_=>exact hd _ (List.Mem.tail _ (List.Mem.tail _ (List.Mem.tail _ (List.Mem.tail _ (List.Mem.head _))))) h
  | 5,_=>exact hd _ (List.Mem.tail _ (List.Mem.tail _ (List.Mem.tail _ (List.Mem.tail _ (List.Mem.tail _ (List.Mem.head _)))))) h
  | 6,_=>exact hd _ (List.Mem.tail _ (List.Mem.tail _ (List.Mem.tail _ (List.Mem.tail _ (List.Mem.tail _ (List.Mem.tail _ (List.Mem.head _))))))) h
  | 7,_=>exact hd _ (List.Mem.tail _ (List.Mem.tail _ (List.Mem.tail _ (List.Mem.tail _ (List.Mem.tail _ (List.Mem.tail _ (List.Mem.tail _ (List.Mem.head _)))))))) h
  | 8,_=>exact hd _ (List.Mem.tail _ (List.Mem.tail _ (List.Mem.tail _ (List.Mem.tail _ (List.Mem.tail _ (List.Mem.tail _ (List.Mem.tail _ (List.Mem.tail _ (List.Mem.head _))))))))) h
  | 9,_=>exact hd _ (List.Mem.tail _ (List.Mem.tail _ (List.Mem.tail _ (List.Mem.tail _ (List.Mem.tail _ (List.Mem.tail _ (List.Mem.tail _ (List.Mem.tail _ (List.Mem.tail _ (List.Mem.head _)))))))))) h
  | n+10,h=>omega)
 have sj:=hid hI.world;clear hI w9 x0 x1 x2 x3 x4 x5 x6 x7 x8 x9;subst ea;simp only[putL,List.setIfInBounds_toArray,List.set_cons_zero,List.set_cons_succ];obtain ⟨K3,K4⟩:=aM sj.o K3 K4;have sw:=Lib.hid (si.o.trans (sj.o.mono si.o.size));obtain ⟨d1,d2⟩:=ay K3.o rfl rfl;obtain ⟨d3,d4⟩:=ay K4.o rfl rfl;have f1:=K3.o.frozen (i:=0);have f2:=K3.o.frozen (i:=1);have f3:=K4.o.frozen (i:=0);have f4:=K4.o.frozen (i:=1);refine bJ (t:=1) ?_;refine wpOp_step rfl (fun K' hK=>?_);have hK:=hid hK;go_simp;refine hK.o _ _ ?_;clear hK;refine bJ (t:=0) ?_;refine wpOp_step rfl (fun K' hK=>?_);have hK:=hid hK;go_simp;refine hK.o _ _ ?_;clear hK;refine bF ?_;go_wp2;refine bodyPost_ret (v:=.tuple #[.agg #[.bool (ai q),.slice p4 (ae q) c4],.agg #[.bool (ai r),.slice p9 (ae r) c9]]) (by simp[results,results131,go_sem,d1,d2,d3,d4]) rfl ⟨_,_,_,_,rfl,?_,?_,?_⟩
 · exact gI (gI R4.o K3.o (dm _ _ _ _) _ _ (dm _ _ _ _)) (jP K4.o (by omega) _ _) (dm _ _ _ _) _ _ (dm _ _ _ _)
 · exact gI (gI R9.o K3.o (dm _ _ _ _) _ _ (dm _ _ _ _)) (jP K4.o (by omega) _ _) (dm _ _ _ _) _ _ (dm _ _ _ _)
 · exact gU (gU sw.o (by omega) _ _) (by omega) _ _
