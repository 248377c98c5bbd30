/- texts -/
import Derived.Test.YtikihamjpenboaaGreatDoorZd
open Go.Proofs.Tryz
namespace Go.Proofs.YtikihamjpenboaaGreatDoor
open Go.RowKit Go.Gb
theorem z4z (a b:Nat)(h:(ae a).length≤50000):(ae (a-b)).length≤1000000:=by have:=aL (Nat.sub_le a b);omega
theorem z4q {f:FuncId}{args:Array Value}{w:World}{z:Int}(h:Calls Tryz.prog f args w fun e w'=>∃ p c,e=.returned (.agg #[.bool (ah z),.slice p (aa z) c])∧RN w' (.slice p (aa z) c) z.natAbs∧Below w.heap.size w w') :
 Calls Tryz.prog f args w fun e w'=>∃ u,e=.returned u∧Rz w' u z∧Below w.heap.size w w' :=
 h.mono fun _ _ ⟨_,_,e,r,hb⟩=>⟨_,e,Rz.mk r,hb⟩
theorem z0T {x y:Int}(h:(ah x==ah y)=true):x+y=(if ah x=true then -((x.natAbs+y.natAbs:Nat):Int) else ((x.natAbs+y.natAbs:Nat):Int)):=by
 unfold ah at *
 by_cases hx:x<0<;>by_cases hy:y<0<;>simp[hx,hy]at h ⊢ <;> omega
theorem qA {x y:Int}(h:(ah x==ah y)=false):(y.natAbs≤x.natAbs→x+y=(if ah x=true then -((x.natAbs-y.natAbs:Nat):Int) else ((x.natAbs-y.natAbs:Nat):Int)))∧(x.natAbs<y.natAbs→x+y=(if ah y=true then -((y.natAbs-x.natAbs:Nat):Int) else ((y.natAbs-x.natAbs:Nat):Int))):=by
 unfold ah at *
 by_cases hx:x<0<;>by_cases hy:y<0<;>simp[hx,hy]at h ⊢ <;> constructor<;>intro h2<;>omega
theorem z5D (u1 u2:Value)(x y:Int)(hx:(ae x.natAbs).length≤50000)(hy:(ae y.natAbs).length≤50000)(w:World)(h1:Rz w u1 x)(h2:Rz w u2 y) :
 Calls Tryz.prog 101 #[u1,u2] w fun e w'=>∃ u,e=.returned u∧Rz w' u (x+y)∧Below w.heap.size w w':=by
 obtain⟨p1,c1,rfl,r1⟩:=h1.sh;obtain⟨p2,c2,rfl,r2⟩:=h2.sh;have hsl:=fC hx hy;have hx':ag x.natAbs≤50000:=hx;have hy':ag y.natAbs≤50000:=hy;have hsl':ag (x.natAbs+y.natAbs)≤50001:=hsl;have hd1:ag (x.natAbs-y.natAbs)≤1000000:=z4z _ _ hx;have hd2:ag (y.natAbs-x.natAbs)≤1000000:=z4z _ _ hy;refine z4q ?_
 cases hs:(ah x==ah y) with
 | true=>exact zX x y (x+y) (x.natAbs+y.natAbs) hs p1 c1 p2 c2 w (fun p1 c1 p2 c2 W h1 h2=>z6o _ _ _ _ (by omega) (by omega) W h1 h2) (fun s d W h=>jc _ _ _ _ (z0T hs) (by omega) W h) r1 r2
 | false =>
   rcases Nat.lt_or_ge x.natAbs y.natAbs with h|h
   · exact z3T x y (x+y) (y.natAbs-x.natAbs) (-1) (by decide) hs p1 c1 p2 c2 w (fun p1 c1 p2 c2 W h1 h2=>by have k:=cCmp (.slice p1 (aa x) c1) (.slice p2 (aa y) c2) x.natAbs y.natAbs (by omega) W h1 h2;rwa [gK h]at k) (fun p1 c1 p2 c2 W h1 h2=>z2c _ _ _ _ (by omega) (by omega) W h1 h2) (fun s d W h'=>jc _ _ _ _ ((qA hs).2 h) hd2 W h') r1 r2
   · exact z3U x y (x+y) (x.natAbs-y.natAbs) (cmpN x.natAbs y.natAbs) (by unfold cmpN;split<;>(try split)<;>omega) hs p1 c1 p2 c2 w (fun p1 c1 p2 c2 W h1 h2=>cCmp _ _ _ _ (by omega) W h1 h2) (fun p1 c1 p2 c2 W h1 h2=>z2c _ _ _ _ h (by omega) W h1 h2) (fun s d W h'=>jc _ _ _ _ ((qA hs).1 h) hd1 W h') r1 r2
theorem yP (x y:Int):x*y=(if (decide (x<0) != decide (y<0)) then -((x.natAbs*y.natAbs:Nat):Int) else ((x.natAbs*y.natAbs:Nat):Int)):=by
 rw[Int.natCast_mul];by_cases hx:x<0
 · by_cases hy:y<0
   · have e1:(x.natAbs:Int) = -x:=by omega
     have e2:(y.natAbs:Int) = -y:=by omega
     rw[e1,e2];simp[hx,hy,Int.neg_mul,Int.mul_neg]
   · have e1:(x.natAbs:Int) = -x:=by omega
     have e2:(y.natAbs:Int)=y:=by omega
     rw[e1,e2];simp[hx,hy,Int.neg_mul]
 · by_cases hy:y<0
   · have e1:(x.natAbs:Int)=x:=by omega
     have e2:(y.natAbs:Int) = -y:=by omega
     rw[e1,e2];simp[hx,hy,Int.mul_neg]
   · have e1:(x.natAbs:Int)=x:=by omega
     have e2:(y.natAbs:Int)=y:=by omega
     rw[e1,e2];simp[hx,hy]
theorem z5B (u1 u2:Value)(x y:Int)(hx:(ae x.natAbs).length≤50000)(hy:(ae y.natAbs).length≤50000)(w:World)(h1:Rz w u1 x)(h2:Rz w u2 y) :
 Calls Tryz.prog 69 #[u1,u2] w fun e w'=>∃ u,e=.returned u∧Rz w' u (x*y)∧Below w.heap.size w w':=by
 obtain⟨p1,c1,rfl,r1⟩:=h1.sh;obtain⟨p2,c2,rfl,r2⟩:=h2.sh;have hml:=fB x.natAbs y.natAbs;have hml':ag (x.natAbs*y.natAbs)≤ag x.natAbs+ag y.natAbs:=hml;have hx':ag x.natAbs≤50000:=hx;have hy':ag y.natAbs≤50000:=hy;exact z4q (zW x y (x*y) (x.natAbs*y.natAbs) p1 c1 p2 c2 w (fun p1 c1 p2 c2 W h1 h2=>oN _ _ _ _ (by omega) (by omega) W h1 h2) (fun s d W h=>jc _ _ _ _ (yP x y) (by omega) W h) r1 r2)
theorem xU {w:World}{v:Value}{xs:List Nat}{g:Nat}{b:Bool}{q:Option Addr}{l c:Nat}{T:TypeId}{fz:Nat × Nat}(hg:w.heap[g]? = some (.cells #[.bool b,.slice q l c] T fz))(h:Rd .u32 w v xs)(i:Nat)(u:Value):Rd .u32 (w.setCell ⟨g,i,none⟩ u) v xs:=by
 rcases h with h|⟨b',o,c',h1,h2,h3,h4,h5⟩
 · exact Or.inl h
 · refine Or.inr ⟨b',o,c',h1,h2,h3,by simpa [World.setCell] using h4,fun j hj=>?_⟩
   have h6:=h5 j hj
   have hne:b'≠g:=by
    intro e;subst e;simp only[World.cell?,hg]at h6
    match hk:o+j with
    | 0=>rw[hk]at h6;simp at h6
    | 1=>rw[hk]at h6;simp at h6
    | n+2=>rw[hk]at h6;simp at h6
   exact(z0e hne).trans h6
set_option maxRecDepth 100000
set_option maxHeartbeats 20000000
open Go.Lib (hid)
theorem uJ {W W':World}{g:Nat}{o:Obj}(h:W.heap[g]? = some o)(hb:Below W.heap.size W W'):W'.heap[g]? = some o:=by
 rw[hb.block g (Array.getElem?_eq_some_iff.1 h).1];exact h
theorem heap_set {W:World}{g i:Nat}{b b':Bool}{q:Option Addr}{l c:Nat}{T:TypeId}{fz:Nat × Nat}(h:W.heap[g]? = some (.cells #[.bool b,.slice q l c] T fz))(hi:i=0):(W.setCell ⟨g,i,none⟩ (.bool b')).heap[g]? = some (.cells #[.bool b',.slice q l c] T fz):=by
 subst hi;simp only[World.setCell,Array.getElem?_modify,h];simp
theorem zY (ba bb ob r:Bool)(p1:Option Addr)(l1 c1:Nat)(p2:Option Addr)(l2 c2:Nat)(m n L:Nat)(w:World)
 (hO:∀ W,Below w.heap.size w W→Calls Tryz.prog 129 #[.agg #[.bool bb,.slice p2 l2 c2]] W fun e w'=>∃ p c,e=.returned (.agg #[.bool ob,.slice p l2 c])∧Rd .u32 w' (.slice p l2 c) (ae m)∧Below W.heap.size W w')
 (hQ:∀ W p c,Below w.heap.size w W→Rd .u32 W (.slice p l2 c) (ae m)→Calls Tryz.prog 101 #[.agg #[.bool ba,.slice p1 l1 c1],.agg #[.bool ob,.slice p l2 c]] W fun e w'=>∃ p' c',e=.returned (.agg #[.bool r,.slice p' L c'])∧Rd .u32 w' (.slice p' L c') (ae n)∧Below W.heap.size W w') :
 Calls Tryz.prog 95 #[.agg #[.bool ba,.slice p1 l1 c1],.agg #[.bool bb,.slice p2 l2 c2]] w fun e w'=>∃ v,e=.returned (.agg #[.bool r,v])∧Rd .u32 w' v (ae n)∧Below w.heap.size w w':=by
 have HO:=hid hO;have HQ:=hid hQ;have HW:=hid (((((Below.refl w.heap.size w).alloc (Nat.le_refl _) (.cells #[.bool ba,.slice p1 l1 c1] 49)).alloc (by simp) (.cells #[.bool bb,.slice p2 l2 c2] 49)).alloc (by simp;omega) (.cells #[.bool false,.slice none 0 0] 49)))
 have AH:=hid (show(((w.alloc (.cells #[.bool ba,.slice p1 l1 c1] 49)).alloc (.cells #[.bool bb,.slice p2 l2 c2] 49)).alloc (.cells #[.bool false,.slice none 0 0] 49)).heap[w.heap.size+1+1]? = some (.cells #[.bool false,.slice none 0 0] 49 (0,0)) by
  rw[show w.heap.size+1+1=((w.alloc (.cells #[.bool ba,.slice p1 l1 c1] 49)).alloc (.cells #[.bool bb,.slice p2 l2 c2] 49)).heap.size by simp];exact heap_alloc_new _ _)
 have A00:=hid (show(((w.alloc (.cells #[.bool ba,.slice p1 l1 c1] 49)).alloc (.cells #[.bool bb,.slice p2 l2 c2] 49)).alloc (.cells #[.bool false,.slice none 0 0] 49)).cell? ⟨w.heap.size,0,none⟩=some (.bool ba) by rw[fe (by simp;omega),fe (by simp),pY rfl];rfl);have A01:=hid (show(((w.alloc (.cells #[.bool ba,.slice p1 l1 c1] 49)).alloc (.cells #[.bool bb,.slice p2 l2 c2] 49)).alloc (.cells #[.bool false,.slice none 0 0] 49)).cell? ⟨w.heap.size,1,none⟩=some (.slice p1 l1 c1) by rw[fe (by simp;omega),fe (by simp),pY rfl];rfl);have A10:=hid (show(((w.alloc (.cells #[.bool ba,.slice p1 l1 c1] 49)).alloc (.cells #[.bool bb,.slice p2 l2 c2] 49)).alloc (.cells #[.bool false,.slice none 0 0] 49)).cell? ⟨w.heap.size+1,0,none⟩=some (.bool bb) by rw[fe (by simp),pY (by simp)];rfl);have A11:=hid (show(((w.alloc (.cells #[.bool ba,.slice p1 l1 c1] 49)).alloc (.cells #[.bool bb,.slice p2 l2 c2] 49)).alloc (.cells #[.bool false,.slice none 0 0] 49)).cell? ⟨w.heap.size+1,1,none⟩=some (.slice p2 l2 c2) by rw[fe (by simp),pY (by simp)];rfl);have A20:=hid (show(((w.alloc (.cells #[.bool ba,.slice p1 l1 c1] 49)).alloc (.cells #[.bool bb,.slice p2 l2 c2] 49)).alloc (.cells #[.bool false,.slice none 0 0] 49)).cell? ⟨w.heap.size+1+1,0,none⟩=some (.bool false) by rw[pY (by simp)];rfl);have A21:=hid (show(((w.alloc (.cells #[.bool ba,.slice p1 l1 c1] 49)).alloc (.cells #[.bool bb,.slice p2 l2 c2] 49)).alloc (.cells #[.bool false,.slice none 0 0] 49)).cell? ⟨w.heap.size+1+1,1,none⟩=some (.slice none 0 0) by rw[pY (by simp)];rfl);have F0:=hid (show(((w.alloc (.cells #[.bool ba,.slice p1 l1 c1] 49)).alloc (.cells #[.bool bb,.slice p2 l2 c2] 49)).alloc (.cells #[.bool false,.slice none 0 0] 49)).frozen? ⟨w.heap.size+1+1,0,none⟩=false by rw[z4e (by simp)]);have F1:=hid (show(((w.alloc (.cells #[.bool ba,.slice p1 l1 c1] 49)).alloc (.cells #[.bool bb,.slice p2 l2 c2] 49)).alloc (.cells #[.bool false,.slice none 0 0] 49)).frozen? ⟨w.heap.size+1+1,1,none⟩=false by rw[z4e (by simp)]);clear hO hQ;go_enter func95,ntmps95
 go_wp2
 go_region_held3 (fun w'=>w'.cell? ⟨w.heap.size,0,none⟩=some (.bool ba)∧w'.cell? ⟨w.heap.size,1,none⟩=some (.slice p1 l1 c1)∧w'.cell? ⟨w.heap.size+1,0,none⟩=some (.bool bb)∧w'.cell? ⟨w.heap.size+1,1,none⟩=some (.slice p2 l2 c2)) (first|((try go_split_ands);refine⟨?_,?_,?_,?_⟩<;>(first|(with_reducible assumption)|((repeat (first|rw[nQ]|rw[fe (by first|assumption|omega|(simp;done)|(simp;omega))]|rw[z0e (by omega)]));first|(with_reducible assumption)|(simp;done))))|(go_keep;done))
  (first|(go_at_call 129;refine(HO.o _ ?bd).mono ?_;(case bd=>first|exact HW.o|exact HW.o.drew);rintro e w1 ⟨po,co,rfl,ro,hb1⟩;obtain⟨hc1,hf1⟩:=fO hb1;have hs1:=hb1.size;(try simp at hs1);have q10:w.heap.size<w1.heap.size:=(by omega);have q11:w.heap.size+1<w1.heap.size:=(by omega);have q12:w.heap.size+1+1<w1.heap.size:=(by omega);have s100:w1.cell? ⟨w.heap.size,0,none⟩=some (.bool ba):=(by rw[hc1 _ _ (by first|assumption|omega|(simp;done)|(simp;omega))];first|(with_reducible assumption)|exact A00.o);have s101:w1.cell? ⟨w.heap.size,1,none⟩=some (.slice p1 l1 c1):=(by rw[hc1 _ _ (by first|assumption|omega|(simp;done)|(simp;omega))];first|(with_reducible assumption)|exact A01.o);have s110:w1.cell? ⟨w.heap.size+1,0,none⟩=some (.bool bb):=(by rw[hc1 _ _ (by first|assumption|omega|(simp;done)|(simp;omega))];first|(with_reducible assumption)|exact A10.o);have s111:w1.cell? ⟨w.heap.size+1,1,none⟩=some (.slice p2 l2 c2):=(by rw[hc1 _ _ (by first|assumption|omega|(simp;done)|(simp;omega))];first|(with_reducible assumption)|exact A11.o);have s120:w1.cell? ⟨w.heap.size+1+1,0,none⟩=some (.bool false):=(by rw[hc1 _ _ (by first|assumption|omega|(simp;done)|(simp;omega))];first|(with_reducible assumption)|exact A20.o);have s121:w1.cell? ⟨w.heap.size+1+1,1,none⟩=some (.slice none 0 0):=(by rw[hc1 _ _ (by first|assumption|omega|(simp;done)|(simp;omega))];first|(with_reducible assumption)|exact A21.o);have f10:w1.frozen? ⟨w.heap.size+1+1,0,none⟩=false:=(by rw[hf1 _ _ (by first|assumption|omega|(simp;done)|(simp;omega))];first|(with_reducible assumption)|exact F0.o);have f11:w1.frozen? ⟨w.heap.size+1+1,1,none⟩=false:=(by rw[hf1 _ _ (by first|assumption|omega|(simp;done)|(simp;omega))];first|(with_reducible assumption)|exact F1.o);have u6:=hid (show Below w.heap.size w w1 from Below.trans HW.o (by first|exact hb1.mono (by first|omega|(simp;omega)|simp)|exact Below.trans (Below.drew (Below.refl _ _)) (hb1.mono (by first|omega|(simp;omega)|simp))));have RO:=hid ro;have hg1:=hid (show w1.heap[w.heap.size+1+1]? = some (.cells #[.bool false,.slice none 0 0] 49 (0,0)) from(by refine uJ ?_ hb1;exact AH.o)))|(go_at_call 101;refine(HQ.o w1 po co u6.o RO.o).mono ?_;rintro e w2 ⟨pv,cv,rfl,rv,hb2⟩;obtain⟨hc2,hf2⟩:=fO hb2;have hs2:=hb2.size;(try simp at hs2);have q20:w.heap.size<w2.heap.size:=(by omega);have q21:w.heap.size+1<w2.heap.size:=(by omega);have q22:w.heap.size+1+1<w2.heap.size:=(by omega);have s200:w2.cell? ⟨w.heap.size,0,none⟩=some (.bool ba):=(by rw[hc2 _ _ (by first|assumption|omega|(simp;done)|(simp;omega))];first|(with_reducible assumption)|exact A00.o);have s201:w2.cell? ⟨w.heap.size,1,none⟩=some (.slice p1 l1 c1):=(by rw[hc2 _ _ (by first|assumption|omega|(simp;done)|(simp;omega))];first|(with_reducible assumption)|exact A01.o);have s210:w2.cell? ⟨w.heap.size+1,0,none⟩=some (.bool bb):=(by rw[hc2 _ _ (by first|assumption|omega|(simp;done)|(simp;omega))];first|(with_reducible assumption)|exact A10.o);have s211:w2.cell? ⟨w.heap.size+1,1,none⟩=some (.slice p2 l2 c2):=(by rw[hc2 _ _ (by first|assumption|omega|(simp;done)|(simp;omega))];first|(with_reducible assumption)|exact A11.o);have s220:w2.cell? ⟨w.heap.size+1+1,0,none⟩=some (.bool false):=(by rw[hc2 _ _ (by first|assumption|omega|(simp;done)|(simp;omega))];first|(with_reducible assumption)|exact A20.o);have s221:w2.cell? ⟨w.heap.size+1+1,1,none⟩=some (.slice none 0 0):=(by rw[hc2 _ _ (by first|assumption|omega|(simp;done)|(simp;omega))];first|(with_reducible assumption)|exact A21.o);have f20:w2.frozen? ⟨w.heap.size+1+1,0,none⟩=false:=(by rw[hf2 _ _ (by first|assumption|omega|(simp;done)|(simp;omega))];first|(with_reducible assumption)|exact F0.o);have f21:w2.frozen? ⟨w.heap.size+1+1,1,none⟩=false:=(by rw[hf2 _ _ (by first|assumption|omega|(simp;done)|(simp;omega))];first|(with_reducible assumption)|exact F1.o);have hg2:=hid (uJ hg1.o hb2))|fail)
 all_goals
  go_wp2;have HB:Below w.heap.size w w2:=u6.o.trans (hb2.mono u6.o.size);refine bodyPost_ret (v:=.agg #[.bool r,.slice pv L cv]) (by simp[results,results95,go_sem,s220,s221]) rfl ⟨_,rfl,?_,?_⟩
  · exact xU (heap_set hg2.o rfl) (xU hg2.o rv 0 _) 1 _
  · exact(HB.setCell (p:=⟨w.heap.size+1+1,0,none⟩) (by show w.heap.size≤w.heap.size+1+1;omega) _).setCell (p:=⟨w.heap.size+1+1,1,none⟩) (by show w.heap.size≤w.heap.size+1+1;omega) _
theorem z5E (u1 u2:Value)(x y:Int)(hx:(ae x.natAbs).length≤50000)(hy:(ae y.natAbs).length≤50000)(w:World)(h1:Rz w u1 x)(h2:Rz w u2 y) :
 Calls Tryz.prog 95 #[u1,u2] w fun e w'=>∃ u,e=.returned u∧Rz w' u (x-y)∧Below w.heap.size w w':=by
 obtain⟨p1,c1,rfl,r1⟩:=jk h1;obtain⟨p2,c2,rfl,r2⟩:=jk h2;refine(zY (decide (x<0)) (decide (y<0)) (decide (-y<0)) (decide (x-y<0)) p1 _ c1 p2 _ c2 (-y).natAbs (x-y).natAbs (ae (x-y).natAbs).length w ?_ ?_).mono ?_
 · intro W hW
   have h:=z0a _ y (by omega) W (Rz.below ⟨_,rfl,r2⟩ hW);exact rD rfl (by rw[Int.natAbs_neg]) h
 · intro W p c hW hr
   have h:=z5D (.agg #[.bool (decide (x<0)),.slice p1 (ae x.natAbs).length c1]) (.agg #[.bool (decide (-y<0)),.slice p (ae y.natAbs).length c]) x (-y) hx (by rw[Int.natAbs_neg];exact hy) W (Rz.below ⟨_,rfl,r1⟩ hW) ⟨_,rfl,hr⟩;rw[← Int.sub_eq_add_neg]at h;exact rD rfl rfl h
 · rintro e w' ⟨v,e1,e2,e3⟩
   exact⟨_,e1,⟨_,rfl,e2⟩,e3⟩
end Go.Proofs.YtikihamjpenboaaGreatDoor
set_option maxRecDepth 100000
set_option maxHeartbeats 20000000
namespace Go.Proofs.YtikihamjpenboaaGreatDoor
open Go.RowKit Go.Gb
theorem z3V (ba bb r:Bool)(p1:Option Addr)(l1 c1:Nat)(p2:Option Addr)(l2 c2:Nat)(L:Nat)(s:Int)(w:World)
 (hs:s=if r=true then -1 else if 0<L then 1 else 0)
 (hM:∀ W,Below w.heap.size w W→Calls Tryz.prog 95 #[.agg #[.bool ba,.slice p1 l1 c1],.agg #[.bool bb,.slice p2 l2 c2]] W fun e w'=>∃ p c,e=.returned (.agg #[.bool r,.slice p L c])∧Below W.heap.size W w') :
 CR 67 #[.agg #[.bool ba,.slice p1 l1 c1],.agg #[.bool bb,.slice p2 l2 c2]] w (.int .i64 s):=by
 have HM:=Lib.hid hM;have HS:=Lib.hid (fun W p c=>oU r p L c s hs W);have HW:=Lib.hid (((Below.refl w.heap.size w).alloc (Nat.le_refl _) (.cells #[.bool ba,.slice p1 l1 c1] 49)).alloc (by simp) (.cells #[.bool bb,.slice p2 l2 c2] 49));clear hM hs;go_enter func67,ntmps67
 go_wp2_with fail
 refine(HM.o _ HW.o).mono ?_;rintro e w1 ⟨p,c,rfl,hb1⟩;have u6:=Lib.hid (HW.o.trans (hb1.mono HW.o.size));clear hb1;go_wp2_with fail
 refine(HS.o w1 p c).mono ?_;rintro e w2 ⟨rfl,hb⟩;have wu:=Lib.hid (u6.o.trans (hb.mono u6.o.size));clear hb;go_wp2;go_ret
 exact⟨rfl,wu.o⟩
theorem zCmp (u1 u2:Value)(x y:Int)(hx:(ae x.natAbs).length≤50000)(hy:(ae y.natAbs).length≤50000)(w:World)(h1:Rz w u1 x)(h2:Rz w u2 y) :
 CR 67 #[u1,u2] w (.int .i64 (cmpZ x y)):=by
 obtain⟨p1,c1,rfl,r1⟩:=jk h1;obtain⟨p2,c2,rfl,r2⟩:=jk h2;refine z3V _ _ (decide (x-y<0)) p1 _ c1 p2 _ c2 (ae (x-y).natAbs).length (cmpZ x y) w ?_ ?_
 · have hl:=rZ (x-y).natAbs
   rcases Int.lt_trichotomy x y with h|h|h
   · rw[oI h,if_pos (decide_eq_true (by omega))]
   · subst h
     rw[sS,Int.sub_self];simp[aN]
   · rw[oJ h,if_neg (by rw[decide_eq_false (by omega)];simp),if_pos]
     exact List.length_pos_iff.2 (by rw[bH (by omega)];simp)
 · intro W hW
   exact(rD rfl rfl (z5E _ _ x y hx hy W (Rz.below ⟨_,rfl,r1⟩ hW) (Rz.below ⟨_,rfl,r2⟩ hW))).mono fun e w' ⟨p,c,e1,_,e3⟩=>⟨p,c,e1,e3⟩
end Go.Proofs.YtikihamjpenboaaGreatDoor
open Go.Lib (hid)
namespace Go.Proofs.YtikihamjpenboaaGreatDoor
open Go.RowKit Go.Gb
theorem z4D (p1:Option Addr)(l1 c1:Nat)(p2:Option Addr)(l2 c2:Nat)(bb:Bool)(nq nr:Nat)(q r:Int)(hly:ag nq≤1000000)(hlr:ag nr≤1000000)
 (hq:q=if bb then -(nq:Int) else (nq:Int)) (hr:r=((nr:Nat):Int)) (w:World)
 (hC:∀ W,Below w.heap.size w W→Calls Tryz.prog 94 #[.slice p1 l1 c1,.slice p2 l2 c2] W fun e w'=>∃ p c p' c',e=.returned (.tuple #[.slice p (ag nq) c,.slice p' (ag nr) c'])∧RN w' (.slice p (ag nq) c) nq∧RN w' (.slice p' (ag nr) c') nr∧Below W.heap.size W w') :
 Calls Tryz.prog 100 #[.agg #[.bool false,.slice p1 l1 c1],.agg #[.bool bb,.slice p2 l2 c2]] w fun e w'=>∃ p c p' c',e=.returned (.tuple #[.agg #[.bool (ah q),.slice p (aa q) c],.agg #[.bool (ah r),.slice p' (aa r) c']])∧RN w' (.slice p (aa q) c) q.natAbs∧RN w' (.slice p' (aa r) c') r.natAbs∧Below w.heap.size w w':=by
 have C1:=hid hC;have C2:=hid (fun v W h=>jc bb v _ q hq hly W h);have C3:=hid (fun v W h=>jc false v _ r hr hlr W h);clear hq hr hly hC hlr;go_enter func100,ntmps100
 go_upto_region 1 with fail
 refine az w [(#[.bool false,.slice p1 l1 c1],49),(#[.bool bb,.slice p2 l2 c2],49),(#[.bool false,.slice none 0 0],49),(#[.bool false,.slice none 0 0],49)] rfl ?_;rintro W0 ⟨k1,k2,k3,k4,hb⟩;obtain ⟨K1,K2,K3,K4⟩:=aM k1 k2 k3 k4;have wo:=hid (show Below w.heap.size w W0 from hb);have d1:=k1.cell (i:=1) rfl;have d2:=k2.cell (i:=1) rfl;clear k1 k2 k3 k4 hb;go_wp2_with fail
 with_reducible refine(C1.o _ wo.o).mono ?_
 rintro e W1 ⟨pq,cq,pr,cr,rfl,rq,rr,hb⟩;clear d1 d2;obtain ⟨K1,K2,K3,K4⟩:=aW hb K1 K2 K3 K4;have u6:=hbt wo hb;have RQ:=hid rq;have RR:=hid rr;have d1:=K1.o.cell (i:=0) rfl;have d2:=K2.o.cell (i:=0) rfl;clear hb rq rr;go_wp2_with fail
 with_reducible refine(C2.o _ _ RQ.o).mono ?_
 rintro e W2 ⟨pu,cu,rfl,ru,hb⟩;clear d1 d2;obtain ⟨K3,K4⟩:=aH hb K3 K4;have wu:=hbt u6 hb;have RU:=hid ru;have RR:=hid (RR.o.below hb);clear hb ru;go_wp2_with fail
 with_reducible refine(C3.o _ _ RR.o).mono ?_
 rintro e W3 ⟨pv,cv,rfl,rv,hb⟩;obtain ⟨K3,K4⟩:=aH hb K3 K4;have ww:=hbt wu hb;have RU:=hid (RU.o.below hb);have RV:=hid rv;obtain ⟨d1,d2⟩:=au K3.o rfl rfl;obtain ⟨d3,d4⟩:=au K4.o rfl rfl;have f1:=K3.o.frozen (i:=0);have f2:=K3.o.frozen (i:=1);have f3:=K4.o.frozen (i:=0);have f4:=K4.o.frozen (i:=1);clear hb rv;go_wp2;refine bodyPost_ret (v:=.tuple #[.agg #[.bool (ah q),.slice pu (aa q) cu],.agg #[.bool (ah r),.slice pv (aa r) cv]]) (by simp[results,results100,go_sem,d1,d2,d3,d4]) rfl ⟨_,_,_,_,rfl,?_,?_,?_⟩
 · exact gJ (gJ RU.o K3.o (dm _ _ _ _) _ _ (dm _ _ _ _)) (jT K4.o (by omega) _ _) (dm _ _ _ _) _ _ (dm _ _ _ _)
 · exact gJ (gJ RV.o K3.o (dm _ _ _ _) _ _ (dm _ _ _ _)) (jT K4.o (by omega) _ _) (dm _ _ _ _) _ _ (dm _ _ _ _)
 · exact gU (gU ww.o (by omega) _ _) (by omega) _ _
theorem z2q (p1:Option Addr)(l1 c1:Nat)(p2:Option Addr)(l2 c2:Nat)(bb:Bool)(nq  : Nat)(q r:Int)(hly:ag nq≤1000000)
 (hq:q=if (!bb) then -(nq:Int) else (nq:Int)) (hr:r=((0:Nat):Int)) (w:World)
 (hC:∀ W,Below w.heap.size w W→Calls Tryz.prog 94 #[.slice p1 l1 c1,.slice p2 l2 c2] W fun e w'=>∃ p c p' c',e=.returned (.tuple #[.slice p (ag nq) c,.slice p' (ag 0) c'])∧RN w' (.slice p (ag nq) c) nq∧RN w' (.slice p' (ag 0) c') 0∧Below W.heap.size W w') :
 Calls Tryz.prog 100 #[.agg #[.bool true,.slice p1 l1 c1],.agg #[.bool bb,.slice p2 l2 c2]] w fun e w'=>∃ p c p' c',e=.returned (.tuple #[.agg #[.bool (ah q),.slice p (aa q) c],.agg #[.bool (ah r),.slice p' (aa r) c']])∧RN w' (.slice p (aa q) c) q.natAbs∧RN w' (.slice p' (aa r) c') r.natAbs∧Below w.heap.size w w':=by
 have C1:=hid hC;have C2:=hid (fun v W h=>jc (!bb) v _ q hq hly W h);have C3:=hid (fun v W h=>jc false v _ r hr (by rw[uD];decide) W h);rw[uD]at C1;clear hq hr hly hC;go_enter func100,ntmps100
 go_upto_region 1 with fail
 refine az w [(#[.bool true,.slice p1 l1 c1],49),(#[.bool bb,.slice p2 l2 c2],49),(#[.bool false,.slice none 0 0],49),(#[.bool false,.slice none 0 0],49)] rfl ?_;rintro W0 ⟨k1,k2,k3,k4,hb⟩;obtain ⟨K1,K2,K3,K4⟩:=aM k1 k2 k3 k4;have wo:=hid (show Below w.heap.size w W0 from hb);have d1:=k1.cell (i:=1) rfl;have d2:=k2.cell (i:=1) rfl;clear k1 k2 k3 k4 hb;go_wp2_with fail
 with_reducible refine(C1.o _ wo.o).mono ?_
 rintro e W1 ⟨pq,cq,pr,cr,rfl,rq,rr,hb⟩;clear d1 d2;obtain ⟨K1,K2,K3,K4⟩:=aW hb K1 K2 K3 K4;have u6:=hbt wo hb;have RQ:=hid rq;have RR:=hid rr;have d1:=K1.o.cell (i:=0) rfl;have d2:=K2.o.cell (i:=0) rfl;clear hb rq rr;go_wp2_with fail
 with_reducible refine(C2.o _ _ RQ.o).mono ?_
 rintro e W2 ⟨pu,cu,rfl,ru,hb⟩;clear d1 d2;obtain ⟨K3,K4⟩:=aH hb K3 K4;have wu:=hbt u6 hb;have RU:=hid ru;have RR:=hid (RR.o.below hb);clear hb ru;go_wp2_with fail
 with_reducible refine(C3.o _ _ RR.o).mono ?_
 rintro e W3 ⟨pv,cv,rfl,rv,hb⟩;obtain ⟨K3,K4⟩:=aH hb K3 K4;have ww:=hbt wu hb;have RU:=hid (RU.o.below hb);have RV:=hid rv;obtain ⟨d1,d2⟩:=au K3.o rfl rfl;obtain ⟨d3,d4⟩:=au K4.o rfl rfl;have f1:=K3.o.frozen (i:=0);have f2:=K3.o.frozen (i:=1);have f3:=K4.o.frozen (i:=0);have f4:=K4.o.frozen (i:=1);clear hb rv;go_wp2;refine bodyPost_ret (v:=.tuple #[.agg #[.bool (ah q),.slice pu (aa q) cu],.agg #[.bool (ah r),.slice pv (aa r) cv]]) (by simp[results,results100,go_sem,d1,d2,d3,d4]) rfl ⟨_,_,_,_,rfl,?_,?_,?_⟩
 · exact gJ (gJ RU.o K3.o (dm _ _ _ _) _ _ (dm _ _ _ _)) (jT K4.o (by omega) _ _) (dm _ _ _ _) _ _ (dm _ _ _ _)
 · exact gJ (gJ RV.o K3.o (dm _ _ _ _) _ _ (dm _ _ _ _)) (jT K4.o (by omega) _ _) (dm _ _ _ _) _ _ (dm _ _ _ _)
 · exact gU (gU ww.o (by omega) _ _) (by omega) _ _
theorem z4C (p1:Option Addr)(l1 c1:Nat)(p2:Option Addr)(l2 c2:Nat)(bb:Bool)(nq nr nb:Nat)(q r:Int)(hly:ag nq≤100000)(hr0:0<ag nr)(hlb:ag nb≤100000)(hnr:nr≤nb)
 (hq:q=if (!bb) then -((nq+1:Nat):Int) else ((nq+1:Nat):Int)) (hr:r=((nb-nr:Nat):Int)) (w:World) (r2:RN w (.slice p2 l2 c2) nb)
 (hC:∀ W,Below w.heap.size w W→Calls Tryz.prog 94 #[.slice p1 l1 c1,.slice p2 l2 c2] W fun e w'=>∃ p c p' c',e=.returned (.tuple #[.slice p (ag nq) c,.slice p' (ag nr) c'])∧RN w' (.slice p (ag nq) c) nq∧RN w' (.slice p' (ag nr) c') nr∧Below W.heap.size W w') :
 Calls Tryz.prog 100 #[.agg #[.bool true,.slice p1 l1 c1],.agg #[.bool bb,.slice p2 l2 c2]] w fun e w'=>∃ p c p' c',e=.returned (.tuple #[.agg #[.bool (ah q),.slice p (aa q) c],.agg #[.bool (ah r),.slice p' (aa r) c']])∧RN w' (.slice p (aa q) c) q.natAbs∧RN w' (.slice p' (aa r) c') r.natAbs∧Below w.heap.size w w':=by
 have C1:=hid hC;have C0:=hid (fun v1 v2 W h1 h2=>z6o v1 v2 nq 1 hly (by rw[jU];decide) W h1 h2);have C2:=hid (fun v W h=>jc (!bb) v _ q hq (z1g hly) W h);have C3:=hid (fun v W h=>jc false v _ r hr (Nat.le_trans (fI (Nat.sub_le nb nr)) (Nat.le_trans hlb (by decide))) W h);have C4:=hid (fun v1 v2 W h1 h2=>z2c v1 v2 nb nr hnr hlb W h1 h2);have RY:=hid r2;have e0:(ag nr==0)=false:=by rw[beq_eq_false_iff_ne];omega
 have e1:((ag nr:Int)==0)=false:=by rw[beq_eq_false_iff_ne];omega
 have e2:¬ (ag nr:Int)=0:=by omega
 have e3:¬ ag nr=0:=by omega
 clear hq hr hly hC r2 hr0 hlb hnr;go_enter func100,ntmps100
 go_upto_region 1 with fail
 refine az w [(#[.bool true,.slice p1 l1 c1],49),(#[.bool bb,.slice p2 l2 c2],49),(#[.bool false,.slice none 0 0],49),(#[.bool false,.slice none 0 0],49)] rfl ?_;rintro W0 ⟨k1,k2,k3,k4,hb⟩;obtain ⟨K1,K2,K3,K4⟩:=aM k1 k2 k3 k4;have wo:=hid (show Below w.heap.size w W0 from hb);have d1:=k1.cell (i:=1) rfl;have d2:=k2.cell (i:=1) rfl;clear k1 k2 k3 k4 hb;go_wp2_with fail
 with_reducible refine(C1.o _ wo.o).mono ?_
 rintro e W1 ⟨pq,cq,pr,cr,rfl,rq,rr,hb⟩;clear d1 d2;obtain ⟨K1,K2,K3,K4⟩:=aW hb K1 K2 K3 K4;have u6:=hbt wo hb;have RQ:=hid rq;have RR:=hid rr;have d1:=K1.o.cell (i:=0) rfl;clear hb rq rr;go_wp2_with fail
 with_reducible refine(kQ 1 1 rfl (by decide) W1).mono ?_
 rintro e W2 ⟨pu,cu,rfl,ru,hb⟩;clear d1;obtain ⟨K2,K3,K4⟩:=bG hb K2 K3 K4;have wu:=hbt u6 hb;obtain ⟨RQ,RR⟩:=aH hb RQ RR;have RU:=Lib.hid ru;clear hb ru;go_wp2_with fail
 with_reducible refine(C0.o _ _ _ RQ.o RU.o).mono ?_
 rintro e W4 ⟨ps,cs,rfl,rs,hb⟩;obtain ⟨K2,K3,K4⟩:=bG hb K2 K3 K4;have si:=hbt wu hb;have RS:=hid rs;have RR:=hid (RR.o.below hb);clear hb rs;go_wp2_with fail
 refine pE (by kernel_rfl) 10 2 (fun i=>[36,37,38,39,40,41,42,43,44,45].getD i 0) (RelR [Rel.val (.pointer (some ⟨w.heap.size+1,0,none⟩)),Rel.val (.bool bb),Rel.val (.bool (!bb)),Rel.val (.slice ps (ag (nq+1)) cs),Rel.int q,Rel.val (.pointer (some ⟨w.heap.size+1,1,none⟩)),Rel.val (.slice p2 l2 c2),Rel.val (.slice pr (ag nr) cr),Rel.nat (nb-nr),Rel.int r]) (fun W=>Below W4.heap.size W4 W) (by kernel_rfl) (by kernel_rfl) (by kernel_rfl) (Below.refl _ _).drew ?_ ?_
 · intro sw a W i hI hrd him
   have HI:=hid hI;have Hi:=fun(j:Nat) (h:i=j)=>(hid (h▸hrd):Hid (j∈_));clear hI hrd
   match i,him with
   | 0,_ =>
     have Hi:=Hi 0 rfl;have y3:=HI.o.rst 3 rfl;refine wpOp_step rfl (fun K' hK=>?_);have hK:=hid hK;go_simp;exact hK.o _ _ (HI.o.put Hi.o (by decide) rfl (by simp) (by decide) (rfl) (fun j u h=>h) (HI.o.world))
   | 1,_ =>
     have Hi:=Hi 1 rfl
     have x0:a.tmps[36]? = some (.pointer (some ⟨w.heap.size+1,0,none⟩)):=by
       obtain⟨v,y,e⟩:=HI.o.at (i:=0) Hi.o (by kernel_rfl) (by decide);obtain rfl:v=.pointer (some ⟨w.heap.size+1,0,none⟩):=e;exact y
     have rV:=(K2.o.below HI.o.world).cell (i:=0) rfl;refine wpOp_step rfl (fun K' hK=>?_);have hK:=hid hK;go_simp;exact hK.o _ _ (HI.o.put Hi.o (by decide) rfl (by simp) (by decide) (rfl) (fun j u h=>h) (HI.o.world))
   | 2,_ =>
     have Hi:=Hi 2 rfl
     have x1:a.tmps[37]? = some (.bool bb):=by
       obtain⟨v,y,e⟩:=HI.o.at (i:=1) Hi.o (by kernel_rfl) (by decide);obtain rfl:v=.bool bb:=e;exact y
     refine wpOp_step rfl (fun K' hK=>?_);have hK:=hid hK;go_simp;exact hK.o _ _ (HI.o.put Hi.o (by decide) rfl (by simp) (by decide) (rfl) (fun j u h=>h) (HI.o.world))
   | 3,_ =>
     have Hi:=Hi 3 rfl;have y6:=HI.o.rst 6 rfl;refine wpOp_step rfl (fun K' hK=>?_);have hK:=hid hK;go_simp;exact hK.o _ _ (HI.o.put Hi.o (by decide) rfl (by simp) (by decide) (rfl) (fun j u h=>h) (HI.o.world))
   | 4,_ =>
     have Hi:=Hi 4 rfl
     have x2:a.tmps[38]? = some (.bool (!bb)):=by
       obtain⟨v,y,e⟩:=HI.o.at (i:=2) Hi.o (by kernel_rfl) (by decide);obtain rfl:v=.bool (!bb):=e;exact y
     have x3:a.tmps[39]? = some (.slice ps (ag (nq+1)) cs):=by
       obtain⟨v,y,e⟩:=HI.o.at (i:=3) Hi.o (by kernel_rfl) (by decide);obtain rfl:v=.slice ps (ag (nq+1)) cs:=e;exact y
     refine wpOp_step rfl (fun K' hK=>?_);have hK:=hid hK;go_simp;with_reducible refine(C2.o _ _ (RS.o.below HI.o.world)).mono ?_
     rintro e W' ⟨p4,c4,rfl,r4,hb⟩;exact hK.o _ _ (HI.o.put Hi.o (by decide) rfl (by simp) (by decide) (⟨p4,c4,rfl,r4⟩) (fun j u h=>RelR.mono hb j u h) (HI.o.world.trans (hb.mono HI.o.world.size)))
   | 5,_ =>
     have Hi:=Hi 5 rfl;have y3:=HI.o.rst 3 rfl;refine wpOp_step rfl (fun K' hK=>?_);have hK:=hid hK;go_simp;exact hK.o _ _ (HI.o.put Hi.o (by decide) rfl (by simp) (by decide) (rfl) (fun j u h=>h) (HI.o.world))
   | 6,_ =>
     have Hi:=Hi 6 rfl
     have x5:a.tmps[41]? = some (.pointer (some ⟨w.heap.size+1,1,none⟩)):=by
       obtain⟨v,y,e⟩:=HI.o.at (i:=5) Hi.o (by kernel_rfl) (by decide);obtain rfl:v=.pointer (some ⟨w.heap.size+1,1,none⟩):=e;exact y
     have ol:=(K2.o.below HI.o.world).cell (i:=1) rfl;refine wpOp_step rfl (fun K' hK=>?_);have hK:=hid hK;go_simp;exact hK.o _ _ (HI.o.put Hi.o (by decide) rfl (by simp) (by decide) (rfl) (fun j u h=>h) (HI.o.world))
   | 7,_ =>
     have Hi:=Hi 7 rfl;have y7:=HI.o.rst 7 rfl;refine wpOp_step rfl (fun K' hK=>?_);have hK:=hid hK;go_simp;exact hK.o _ _ (HI.o.put Hi.o (by decide) rfl (by simp) (by decide) (rfl) (fun j u h=>h) (HI.o.world))
   | 8,_ =>
     have Hi:=Hi 8 rfl
     have x6:a.tmps[42]? = some (.slice p2 l2 c2):=by
       obtain⟨v,y,e⟩:=HI.o.at (i:=6) Hi.o (by kernel_rfl) (by decide);obtain rfl:v=.slice p2 l2 c2:=e;exact y
     have x7:a.tmps[43]? = some (.slice pr (ag nr) cr):=by
       obtain⟨v,y,e⟩:=HI.o.at (i:=7) Hi.o (by kernel_rfl) (by decide);obtain rfl:v=.slice pr (ag nr) cr:=e;exact y
     refine wpOp_step rfl (fun K' hK=>?_);have hK:=hid hK;go_simp;with_reducible refine(C4.o _ _ _ ((RY.o.below si.o).below HI.o.world) (RR.o.below HI.o.world)).mono ?_
     rintro e W' ⟨p8,c8,rfl,r8,hb⟩;exact hK.o _ _ (HI.o.put Hi.o (by decide) rfl (by simp) (by decide) (⟨p8,c8,rfl,r8⟩) (fun j u h=>RelR.mono hb j u h) (HI.o.world.trans (hb.mono HI.o.world.size)))
   | 9,_ =>
     have Hi:=Hi 9 rfl;obtain⟨v,x8,p8,c8,e,r8⟩:=HI.o.at (i:=8) Hi.o (by kernel_rfl) (by decide);obtain rfl:=e;have x8:a.tmps[44]? = some (.slice p8 (ag (nb-nr)) c8):=x8;have R8:=hid r8;clear r8;refine wpOp_step rfl (fun K' hK=>?_);have hK:=hid hK;go_simp;with_reducible refine(C3.o _ _ R8.o).mono ?_
     rintro e W' ⟨p9,c9,rfl,r9,hb⟩;exact hK.o _ _ (HI.o.put Hi.o (by decide) rfl (by simp) (by decide) (⟨p9,c9,rfl,r9⟩) (fun j u h=>RelR.mono hb j u h) (HI.o.world.trans (hb.mono HI.o.world.size)))
   | n+10,h=>exact absurd h (by omega)
 intro sw a W hI w9;obtain⟨v0,x0,e0⟩:=hI.slots 0 (by decide) (w9 0 (by decide));obtain rfl:v0=.pointer (some ⟨w.heap.size+1,0,none⟩):=e0;obtain⟨v1,x1,e1⟩:=hI.slots 1 (by decide) (w9 1 (by decide));obtain rfl:v1=.bool bb:=e1;obtain⟨v2,x2,e2⟩:=hI.slots 2 (by decide) (w9 2 (by decide));obtain rfl:v2=.bool (!bb):=e2;obtain⟨v3,x3,e3⟩:=hI.slots 3 (by decide) (w9 3 (by decide));obtain rfl:v3=.slice ps (ag (nq+1)) cs:=e3;obtain⟨v4,x4,p4,c4,e4,r4⟩:=hI.slots 4 (by decide) (w9 4 (by decide));obtain rfl:=e4;have R4:=hid r4;clear r4;obtain⟨v5,x5,e5⟩:=hI.slots 5 (by decide) (w9 5 (by decide));obtain rfl:v5=.pointer (some ⟨w.heap.size+1,1,none⟩):=e5;obtain⟨v6,x6,e6⟩:=hI.slots 6 (by decide) (w9 6 (by decide));obtain rfl:v6=.slice p2 l2 c2:=e6;obtain⟨v7,x7,e7⟩:=hI.slots 7 (by decide) (w9 7 (by decide));obtain rfl:v7=.slice pr (ag nr) cr:=e7;obtain⟨v8,x8,p8,c8,e8,r8⟩:=hI.slots 8 (by decide) (w9 8 (by decide));obtain rfl:=e8;have R8:=hid r8;clear r8;obtain⟨v9,x9,p9,c9,e9,r9⟩:=hI.slots 9 (by decide) (w9 9 (by decide));obtain rfl:=e9;have R9:=hid r9;clear r9
 have ea:=hI.fin [(36,.pointer (some ⟨w.heap.size+1,0,none⟩)),(37,.bool bb),(38,.bool (!bb)),(39,.slice ps (ag (nq+1)) cs),(40,.agg #[.bool (ah q),.slice p4 (aa q) c4]),(41,.pointer (some ⟨w.heap.size+1,1,none⟩)),(42,.slice p2 l2 c2),(43,.slice pr (ag nr) cr),(44,.slice p8 (ag (nb-nr)) c8),(45,.agg #[.bool (ah r),.slice p9 (aa r) c9])] (by
  intro p hp;simp only[List.mem_cons,List.not_mem_nil,or_false]at hp;rcases hp with rfl|rfl|rfl|rfl|rfl|rfl|rfl|rfl|rfl|rfl
  · exact x0
  · exact x1
  · exact x2
  · exact x3
  · exact x4
  · exact x5
  · exact x6
  · exact x7
  · exact x8
  · exact x9) (by
  intro d hd i him h
  match i,him with
  | 0,_=>exact hd _ (List.Mem.head _) h
  | 1,_=>exact hd _ (List.Mem.tail _ (List.Mem.head _)) h
  | 2,_=>exact hd _ (List.Mem.tail _ (List.Mem.tail _ (List.Mem.head _))) h
  | 3,_=>exact hd _ (List.Mem.tail _ (List.Mem.tail _ (List.Mem.tail _ (List.Mem.head _)))) h
  | 4,_=>exact hd _ (List.Mem.tail _ (List.Mem.tail _ (List.Mem.tail _ (List.Mem.tail _ (List.Mem.head _))))) h
  | 5,_=>exact hd _ (List.Mem.tail _ (List.Mem.tail _ (List.Mem.tail _ (List.Mem.tail _ (List.Mem.tail _ (List.Mem.head _)))))) h
  | 6,_=>exact hd _ (List.Mem.tail _ (List.Mem.tail _ (List.Mem.tail _ (List.Mem.tail _ (List.Mem.tail _ (List.Mem.tail _ (List.Mem.head _))))))) h
  | 7,_=>exact hd _ (List.Mem.tail _ (List.Mem.tail _ (List.Mem.tail _ (List.Mem.tail _ (List.Mem.tail _ (List.Mem.tail _ (List.Mem.tail _ (List.Mem.head _)))))))) h
  | 8,_=>exact hd _ (List.Mem.tail _ (List.Mem.tail _ (List.Mem.tail _ (List.Mem.tail _ (List.Mem.tail _ (List.Mem.tail _ (List.Mem.tail _ (List.Mem.tail _ (List.Mem.head _))))))))) h
  | 9,_=>exact hd _ (List.Mem.tail _ (List.Mem.tail _ (List.Mem.tail _ (List.Mem.tail _ (List.Mem.tail _ (List.Mem.tail _ (List.Mem.tail _ (List.Mem.tail _ (List.Mem.tail _ (List.Mem.head _)))))))))) h
  | n+10,h=>omega)
 have sj:=hid hI.world;clear hI w9 x0 x1 x2 x3 x4 x5 x6 x7 x8 x9;subst ea;simp only[putL,List.setIfInBounds_toArray,List.set_cons_zero,List.set_cons_succ];obtain ⟨K3,K4⟩:=aH sj.o K3 K4;have rM:=Lib.hid (si.o.trans (sj.o.mono si.o.size));obtain ⟨d1,d2⟩:=au K3.o rfl rfl;obtain ⟨d3,d4⟩:=au K4.o rfl rfl;have f1:=K3.o.frozen (i:=0);have f2:=K3.o.frozen (i:=1);have f3:=K4.o.frozen (i:=0);have f4:=K4.o.frozen (i:=1);refine bz (t:=1) ?_;refine wpOp_step rfl (fun K' hK=>?_);have hK:=hid hK;go_simp;refine hK.o _ _ ?_;clear hK;refine bz (t:=0) ?_;refine wpOp_step rfl (fun K' hK=>?_);have hK:=hid hK;go_simp;refine hK.o _ _ ?_;clear hK;refine bi ?_;go_wp2;refine bodyPost_ret (v:=.tuple #[.agg #[.bool (ah q),.slice p4 (aa q) c4],.agg #[.bool (ah r),.slice p9 (aa r) c9]]) (by simp[results,results100,go_sem,d1,d2,d3,d4]) rfl ⟨_,_,_,_,rfl,?_,?_,?_⟩
 · exact gJ (gJ R4.o K3.o (dm _ _ _ _) _ _ (dm _ _ _ _)) (jT K4.o (by omega) _ _) (dm _ _ _ _) _ _ (dm _ _ _ _)
 · exact gJ (gJ R9.o K3.o (dm _ _ _ _) _ _ (dm _ _ _ _)) (jT K4.o (by omega) _ _) (dm _ _ _ _) _ _ (dm _ _ _ _)
 · exact gU (gU rM.o (by omega) _ _) (by omega) _ _
