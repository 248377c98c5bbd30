/- texts -/
import Derived.Test.YteihfbkaieemdaaGreatDoorZd
import Derived.Test.YteihfbkaieemdaaGreatDoorMz28q
open Go.Proofs.Tryz
namespace Go.Proofs.YteihfbkaieemdaaGreatDoor
open Go.RowKit Go.Gb
theorem z3j (a b:Nat)(h:(aa a).length≤50000):(aa (a-b)).length≤1000000:=by have:=aQ (Nat.sub_le a b);omega
theorem z2T {f:FuncId}{args:Array Value}{w:World}{z:Int}(h:Calls Tryz.prog f args w fun e w'=>∃ p c,e=.returned (.agg #[.bool (ai z),.slice p (ae z) c])∧RN w' (.slice p (ae z) c) z.natAbs∧Below w.heap.size w w') :
 Calls Tryz.prog f args w fun e w'=>∃ u,e=.returned u∧Rz w' u z∧Below w.heap.size w w' :=
 h.mono fun _ _ ⟨_,_,e,r,hb⟩=>⟨_,e,Rz.mk r,hb⟩
theorem zT {x y:Int}(h:(ai x==ai y)=true):x+y=(if ai x=true then -((x.natAbs+y.natAbs:Nat):Int) else ((x.natAbs+y.natAbs:Nat):Int)):=by
 unfold ai at *
 by_cases hx:x<0<;>by_cases hy:y<0<;>simp[hx,hy]at h ⊢ <;> omega
theorem pF {x y:Int}(h:(ai x==ai y)=false):(y.natAbs≤x.natAbs→x+y=(if ai x=true then -((x.natAbs-y.natAbs:Nat):Int) else ((x.natAbs-y.natAbs:Nat):Int)))∧(x.natAbs<y.natAbs→x+y=(if ai y=true then -((y.natAbs-x.natAbs:Nat):Int) else ((y.natAbs-x.natAbs:Nat):Int))):=by
 unfold ai at *
 by_cases hx:x<0<;>by_cases hy:y<0<;>simp[hx,hy]at h ⊢ <;> constructor<;>intro h2<;>omega
theorem z4o (u1 u2:Value)(x y:Int)(hx:(aa x.natAbs).length≤50000)(hy:(aa y.natAbs).length≤50000)(w:World)(h1:Rz w u1 x)(h2:Rz w u2 y) :
 Calls Tryz.prog 102 #[u1,u2] w fun e w'=>∃ u,e=.returned u∧Rz w' u (x+y)∧Below w.heap.size w w':=by
 obtain⟨p1,c1,rfl,r1⟩:=h1.sh;obtain⟨p2,c2,rfl,r2⟩:=h2.sh;have hsl:=iF hx hy;have hx':ag x.natAbs≤50000:=hx;have hy':ag y.natAbs≤50000:=hy;have hsl':ag (x.natAbs+y.natAbs)≤50001:=hsl;have hd1:ag (x.natAbs-y.natAbs)≤1000000:=z3j _ _ hx;have hd2:ag (y.natAbs-x.natAbs)≤1000000:=z3j _ _ hy;refine z2T ?_
 cases hs:(ai x==ai y) with
 | true=>exact yG x y (x+y) (x.natAbs+y.natAbs) hs p1 c1 p2 c2 w (fun p1 c1 p2 c2 W h1 h2=>z5H _ _ _ _ (by omega) (by omega) W h1 h2) (fun s d W h=>mM _ _ _ _ (zT hs) (by omega) W h) r1 r2
 | false =>
   rcases Nat.lt_or_ge x.natAbs y.natAbs with h|h
   · exact z2z x y (x+y) (y.natAbs-x.natAbs) (-1) (by decide) hs p1 c1 p2 c2 w (fun p1 c1 p2 c2 W h1 h2=>by have k:=cCmp (.slice p1 (ae x) c1) (.slice p2 (ae y) c2) x.natAbs y.natAbs (by omega) W h1 h2;rwa [gq h]at k) (fun p1 c1 p2 c2 W h1 h2=>z3k _ _ _ _ (by omega) (by omega) W h1 h2) (fun s d W h'=>mM _ _ _ _ ((pF hs).2 h) hd2 W h') r1 r2
   · exact z2A x y (x+y) (x.natAbs-y.natAbs) (cmpN x.natAbs y.natAbs) (by unfold cmpN;split<;>(try split)<;>omega) hs p1 c1 p2 c2 w (fun p1 c1 p2 c2 W h1 h2=>cCmp _ _ _ _ (by omega) W h1 h2) (fun p1 c1 p2 c2 W h1 h2=>z3k _ _ _ _ h (by omega) W h1 h2) (fun s d W h'=>mM _ _ _ _ ((pF hs).1 h) hd1 W h') r1 r2
theorem xL (x y:Int):x*y=(if (decide (x<0) != decide (y<0)) then -((x.natAbs*y.natAbs:Nat):Int) else ((x.natAbs*y.natAbs:Nat):Int)):=by
 rw[Int.natCast_mul];by_cases hx:x<0
 · by_cases hy:y<0
   · have e1:(x.natAbs:Int) = -x:=by omega
     have e2:(y.natAbs:Int) = -y:=by omega
     rw[e1,e2];simp[hx,hy,Int.neg_mul,Int.mul_neg]
   · have e1:(x.natAbs:Int) = -x:=by omega
     have e2:(y.natAbs:Int)=y:=by omega
     rw[e1,e2];simp[hx,hy,Int.neg_mul]
 · by_cases hy:y<0
   · have e1:(x.natAbs:Int)=x:=by omega
     have e2:(y.natAbs:Int) = -y:=by omega
     rw[e1,e2];simp[hx,hy,Int.mul_neg]
   · have e1:(x.natAbs:Int)=x:=by omega
     have e2:(y.natAbs:Int)=y:=by omega
     rw[e1,e2];simp[hx,hy]
theorem z4m (u1 u2:Value)(x y:Int)(hx:(aa x.natAbs).length≤50000)(hy:(aa y.natAbs).length≤50000)(w:World)(h1:Rz w u1 x)(h2:Rz w u2 y) :
 Calls Tryz.prog 73 #[u1,u2] w fun e w'=>∃ u,e=.returned u∧Rz w' u (x*y)∧Below w.heap.size w w':=by
 obtain⟨p1,c1,rfl,r1⟩:=h1.sh;obtain⟨p2,c2,rfl,r2⟩:=h2.sh;have hml:=iE x.natAbs y.natAbs;have hml':ag (x.natAbs*y.natAbs)≤ag x.natAbs+ag y.natAbs:=hml;have hx':ag x.natAbs≤50000:=hx;have hy':ag y.natAbs≤50000:=hy;exact z2T (yF x y (x*y) (x.natAbs*y.natAbs) p1 c1 p2 c2 w (fun p1 c1 p2 c2 W h1 h2=>o6 _ _ _ _ (by omega) (by omega) W h1 h2) (fun s d W h=>mM _ _ _ _ (xL x y) (by omega) W h) r1 r2)
theorem wN {w:World}{v:Value}{xs:List Nat}{g:Nat}{b:Bool}{q:Option Addr}{l c:Nat}{T:TypeId}{fz:Nat × Nat}(hg:w.heap[g]? = some (.cells #[.bool b,.slice q l c] T fz))(h:Rd .u32 w v xs)(i:Nat)(u:Value):Rd .u32 (w.setCell ⟨g,i,none⟩ u) v xs:=by
 rcases h with h|⟨b',o,c',h1,h2,h3,h4,h5⟩
 · exact Or.inl h
 · refine Or.inr ⟨b',o,c',h1,h2,h3,by simpa [World.setCell] using h4,fun j hj=>?_⟩
   have h6:=h5 j hj
   have hne:b'≠g:=by
    intro e;subst e;simp only[World.cell?,hg]at h6
    match hk:o+j with
    | 0=>rw[hk]at h6;simp at h6
    | 1=>rw[hk]at h6;simp at h6
    | n+2=>rw[hk]at h6;simp at h6
   exact(yX hne).trans h6
set_option maxRecDepth 100000
set_option maxHeartbeats 20000000
open Go.Lib (hid)
theorem sZ {W W':World}{g:Nat}{o:Obj}(h:W.heap[g]? = some o)(hb:Below W.heap.size W W'):W'.heap[g]? = some o:=by
 rw[hb.block g (Array.getElem?_eq_some_iff.1 h).1];exact h
theorem heap_set {W:World}{g i:Nat}{b b':Bool}{q:Option Addr}{l c:Nat}{T:TypeId}{fz:Nat × Nat}(h:W.heap[g]? = some (.cells #[.bool b,.slice q l c] T fz))(hi:i=0):(W.setCell ⟨g,i,none⟩ (.bool b')).heap[g]? = some (.cells #[.bool b',.slice q l c] T fz):=by
 subst hi;simp only[World.setCell,Array.getElem?_modify,h];simp
theorem yH (ba bb ob r:Bool)(p1:Option Addr)(l1 c1:Nat)(p2:Option Addr)(l2 c2:Nat)(m n L:Nat)(w:World)
 (hO:∀ W,Below w.heap.size w W→Calls Tryz.prog 119 #[.agg #[.bool bb,.slice p2 l2 c2]] W fun e w'=>∃ p c,e=.returned (.agg #[.bool ob,.slice p l2 c])∧Rd .u32 w' (.slice p l2 c) (aa m)∧Below W.heap.size W w')
 (hQ:∀ W p c,Below w.heap.size w W→Rd .u32 W (.slice p l2 c) (aa m)→Calls Tryz.prog 102 #[.agg #[.bool ba,.slice p1 l1 c1],.agg #[.bool ob,.slice p l2 c]] W fun e w'=>∃ p' c',e=.returned (.agg #[.bool r,.slice p' L c'])∧Rd .u32 w' (.slice p' L c') (aa n)∧Below W.heap.size W w') :
 Calls Tryz.prog 112 #[.agg #[.bool ba,.slice p1 l1 c1],.agg #[.bool bb,.slice p2 l2 c2]] w fun e w'=>∃ v,e=.returned (.agg #[.bool r,v])∧Rd .u32 w' v (aa n)∧Below w.heap.size w w':=by
 have HO:=hid hO;have HQ:=hid hQ;have HW:=hid (((((Below.refl w.heap.size w).alloc (Nat.le_refl _) (.cells #[.bool ba,.slice p1 l1 c1] 52)).alloc (by simp) (.cells #[.bool bb,.slice p2 l2 c2] 52)).alloc (by simp;omega) (.cells #[.bool false,.slice none 0 0] 52)))
 have AH:=hid (show(((w.alloc (.cells #[.bool ba,.slice p1 l1 c1] 52)).alloc (.cells #[.bool bb,.slice p2 l2 c2] 52)).alloc (.cells #[.bool false,.slice none 0 0] 52)).heap[w.heap.size+1+1]? = some (.cells #[.bool false,.slice none 0 0] 52 (0,0)) by
  rw[show w.heap.size+1+1=((w.alloc (.cells #[.bool ba,.slice p1 l1 c1] 52)).alloc (.cells #[.bool bb,.slice p2 l2 c2] 52)).heap.size by simp];exact heap_alloc_new _ _)
 have A00:=hid (show(((w.alloc (.cells #[.bool ba,.slice p1 l1 c1] 52)).alloc (.cells #[.bool bb,.slice p2 l2 c2] 52)).alloc (.cells #[.bool false,.slice none 0 0] 52)).cell? ⟨w.heap.size,0,none⟩=some (.bool ba) by rw[fA (by simp;omega),fA (by simp),oW rfl];rfl);have A01:=hid (show(((w.alloc (.cells #[.bool ba,.slice p1 l1 c1] 52)).alloc (.cells #[.bool bb,.slice p2 l2 c2] 52)).alloc (.cells #[.bool false,.slice none 0 0] 52)).cell? ⟨w.heap.size,1,none⟩=some (.slice p1 l1 c1) by rw[fA (by simp;omega),fA (by simp),oW rfl];rfl);have A10:=hid (show(((w.alloc (.cells #[.bool ba,.slice p1 l1 c1] 52)).alloc (.cells #[.bool bb,.slice p2 l2 c2] 52)).alloc (.cells #[.bool false,.slice none 0 0] 52)).cell? ⟨w.heap.size+1,0,none⟩=some (.bool bb) by rw[fA (by simp),oW (by simp)];rfl);have A11:=hid (show(((w.alloc (.cells #[.bool ba,.slice p1 l1 c1] 52)).alloc (.cells #[.bool bb,.slice p2 l2 c2] 52)).alloc (.cells #[.bool false,.slice none 0 0] 52)).cell? ⟨w.heap.size+1,1,none⟩=some (.slice p2 l2 c2) by rw[fA (by simp),oW (by simp)];rfl);have A20:=hid (show(((w.alloc (.cells #[.bool ba,.slice p1 l1 c1] 52)).alloc (.cells #[.bool bb,.slice p2 l2 c2] 52)).alloc (.cells #[.bool false,.slice none 0 0] 52)).cell? ⟨w.heap.size+1+1,0,none⟩=some (.bool false) by rw[oW (by simp)];rfl);have A21:=hid (show(((w.alloc (.cells #[.bool ba,.slice p1 l1 c1] 52)).alloc (.cells #[.bool bb,.slice p2 l2 c2] 52)).alloc (.cells #[.bool false,.slice none 0 0] 52)).cell? ⟨w.heap.size+1+1,1,none⟩=some (.slice none 0 0) by rw[oW (by simp)];rfl);have F0:=hid (show(((w.alloc (.cells #[.bool ba,.slice p1 l1 c1] 52)).alloc (.cells #[.bool bb,.slice p2 l2 c2] 52)).alloc (.cells #[.bool false,.slice none 0 0] 52)).frozen? ⟨w.heap.size+1+1,0,none⟩=false by rw[z2J (by simp)]);have F1:=hid (show(((w.alloc (.cells #[.bool ba,.slice p1 l1 c1] 52)).alloc (.cells #[.bool bb,.slice p2 l2 c2] 52)).alloc (.cells #[.bool false,.slice none 0 0] 52)).frozen? ⟨w.heap.size+1+1,1,none⟩=false by rw[z2J (by simp)]);clear hO hQ;go_enter func112,ntmps112
 go_wp2
 go_region_held3 (fun w'=>w'.cell? ⟨w.heap.size,0,none⟩=some (.bool ba)∧w'.cell? ⟨w.heap.size,1,none⟩=some (.slice p1 l1 c1)∧w'.cell? ⟨w.heap.size+1,0,none⟩=some (.bool bb)∧w'.cell? ⟨w.heap.size+1,1,none⟩=some (.slice p2 l2 c2)) (first|((try go_split_ands);refine⟨?_,?_,?_,?_⟩<;>(first|(with_reducible assumption)|((repeat (first|rw[nu]|rw[fA (by first|assumption|omega|(simp;done)|(simp;omega))]|rw[yX (by omega)]));first|(with_reducible assumption)|(simp;done))))|(go_keep;done))
  (first|(go_at_call 119;refine(HO.o _ ?bd).mono ?_;(case bd=>first|exact HW.o|exact HW.o.drew);rintro e w1 ⟨po,co,rfl,ro,hb1⟩;obtain⟨hc1,hf1⟩:=fH hb1;have hs1:=hb1.size;(try simp at hs1);have q10:w.heap.size<w1.heap.size:=(by omega);have q11:w.heap.size+1<w1.heap.size:=(by omega);have q12:w.heap.size+1+1<w1.heap.size:=(by omega);have s100:w1.cell? ⟨w.heap.size,0,none⟩=some (.bool ba):=(by rw[hc1 _ _ (by first|assumption|omega|(simp;done)|(simp;omega))];first|(with_reducible assumption)|exact A00.o);have s101:w1.cell? ⟨w.heap.size,1,none⟩=some (.slice p1 l1 c1):=(by rw[hc1 _ _ (by first|assumption|omega|(simp;done)|(simp;omega))];first|(with_reducible assumption)|exact A01.o);have s110:w1.cell? ⟨w.heap.size+1,0,none⟩=some (.bool bb):=(by rw[hc1 _ _ (by first|assumption|omega|(simp;done)|(simp;omega))];first|(with_reducible assumption)|exact A10.o);have s111:w1.cell? ⟨w.heap.size+1,1,none⟩=some (.slice p2 l2 c2):=(by rw[hc1 _ _ (by first|assumption|omega|(simp;done)|(simp;omega))];first|(with_reducible assumption)|exact A11.o);have s120:w1.cell? ⟨w.heap.size+1+1,0,none⟩=some (.bool false):=(by rw[hc1 _ _ (by first|assumption|omega|(simp;done)|(simp;omega))];first|(with_reducible assumption)|exact A20.o);have s121:w1.cell? ⟨w.heap.size+1+1,1,none⟩=some (.slice none 0 0):=(by rw[hc1 _ _ (by first|assumption|omega|(simp;done)|(simp;omega))];first|(with_reducible assumption)|exact A21.o);have f10:w1.frozen? ⟨w.heap.size+1+1,0,none⟩=false:=(by rw[hf1 _ _ (by first|assumption|omega|(simp;done)|(simp;omega))];first|(with_reducible assumption)|exact F0.o);have f11:w1.frozen? ⟨w.heap.size+1+1,1,none⟩=false:=(by rw[hf1 _ _ (by first|assumption|omega|(simp;done)|(simp;omega))];first|(with_reducible assumption)|exact F1.o);have u6:=hid (show Below w.heap.size w w1 from Below.trans HW.o (by first|exact hb1.mono (by first|omega|(simp;omega)|simp)|exact Below.trans (Below.drew (Below.refl _ _)) (hb1.mono (by first|omega|(simp;omega)|simp))));have RO:=hid ro;have hg1:=hid (show w1.heap[w.heap.size+1+1]? = some (.cells #[.bool false,.slice none 0 0] 52 (0,0)) from(by refine sZ ?_ hb1;exact AH.o)))|(go_at_call 102;refine(HQ.o w1 po co u6.o RO.o).mono ?_;rintro e w2 ⟨pv,cv,rfl,rv,hb2⟩;obtain⟨hc2,hf2⟩:=fH hb2;have hs2:=hb2.size;(try simp at hs2);have q20:w.heap.size<w2.heap.size:=(by omega);have q21:w.heap.size+1<w2.heap.size:=(by omega);have q22:w.heap.size+1+1<w2.heap.size:=(by omega);have s200:w2.cell? ⟨w.heap.size,0,none⟩=some (.bool ba):=(by rw[hc2 _ _ (by first|assumption|omega|(simp;done)|(simp;omega))];first|(with_reducible assumption)|exact A00.o);have s201:w2.cell? ⟨w.heap.size,1,none⟩=some (.slice p1 l1 c1):=(by rw[hc2 _ _ (by first|assumption|omega|(simp;done)|(simp;omega))];first|(with_reducible assumption)|exact A01.o);have s210:w2.cell? ⟨w.heap.size+1,0,none⟩=some (.bool bb):=(by rw[hc2 _ _ (by first|assumption|omega|(simp;done)|(simp;omega))];first|(with_reducible assumption)|exact A10.o);have s211:w2.cell? ⟨w.heap.size+1,1,none⟩=some (.slice p2 l2 c2):=(by rw[hc2 _ _ (by first|assumption|omega|(simp;done)|(simp;omega))];first|(with_reducible assumption)|exact A11.o);have s220:w2.cell? ⟨w.heap.size+1+1,0,none⟩=some (.bool false):=(by rw[hc2 _ _ (by first|assumption|omega|(simp;done)|(simp;omega))];first|(with_reducible assumption)|exact A20.o);have s221:w2.cell? ⟨w.heap.size+1+1,1,none⟩=some (.slice none 0 0):=(by rw[hc2 _ _ (by first|assumption|omega|(simp;done)|(simp;omega))];first|(with_reducible assumption)|exact A21.o);have f20:w2.frozen? ⟨w.heap.size+1+1,0,none⟩=false:=(by rw[hf2 _ _ (by first|assumption|omega|(simp;done)|(simp;omega))];first|(with_reducible assumption)|exact F0.o);have f21:w2.frozen? ⟨w.heap.size+1+1,1,none⟩=false:=(by rw[hf2 _ _ (by first|assumption|omega|(simp;done)|(simp;omega))];first|(with_reducible assumption)|exact F1.o);have hg2:=hid (sZ hg1.o hb2))|fail)
 all_goals
  go_wp2;have HB:Below w.heap.size w w2:=u6.o.trans (hb2.mono u6.o.size);refine bodyPost_ret (v:=.agg #[.bool r,.slice pv L cv]) (by simp[results,results112,go_sem,s220,s221]) rfl ⟨_,rfl,?_,?_⟩
  · exact wN (heap_set hg2.o rfl) (wN hg2.o rv 0 _) 1 _
  · exact(HB.setCell (p:=⟨w.heap.size+1+1,0,none⟩) (by show w.heap.size≤w.heap.size+1+1;omega) _).setCell (p:=⟨w.heap.size+1+1,1,none⟩) (by show w.heap.size≤w.heap.size+1+1;omega) _
theorem z4p (u1 u2:Value)(x y:Int)(hx:(aa x.natAbs).length≤50000)(hy:(aa y.natAbs).length≤50000)(w:World)(h1:Rz w u1 x)(h2:Rz w u2 y) :
 Calls Tryz.prog 112 #[u1,u2] w fun e w'=>∃ u,e=.returned u∧Rz w' u (x-y)∧Below w.heap.size w w':=by
 obtain⟨p1,c1,rfl,r1⟩:=j5 h1;obtain⟨p2,c2,rfl,r2⟩:=j5 h2;refine(yH (decide (x<0)) (decide (y<0)) (decide (-y<0)) (decide (x-y<0)) p1 _ c1 p2 _ c2 (-y).natAbs (x-y).natAbs (aa (x-y).natAbs).length w ?_ ?_).mono ?_
 · intro W hW
   have h:=rO _ y (by omega) W (Rz.below ⟨_,rfl,r2⟩ hW);exact qw rfl (by rw[Int.natAbs_neg]) h
 · intro W p c hW hr
   have h:=z4o (.agg #[.bool (decide (x<0)),.slice p1 (aa x.natAbs).length c1]) (.agg #[.bool (decide (-y<0)),.slice p (aa y.natAbs).length c]) x (-y) hx (by rw[Int.natAbs_neg];exact hy) W (Rz.below ⟨_,rfl,r1⟩ hW) ⟨_,rfl,hr⟩;rw[← Int.sub_eq_add_neg]at h;exact qw rfl rfl h
 · rintro e w' ⟨v,e1,e2,e3⟩
   exact⟨_,e1,⟨_,rfl,e2⟩,e3⟩
end Go.Proofs.YteihfbkaieemdaaGreatDoor
set_option maxRecDepth 100000
set_option maxHeartbeats 20000000
namespace Go.Proofs.YteihfbkaieemdaaGreatDoor
open Go.RowKit Go.Gb
theorem z2B (ba bb r:Bool)(p1:Option Addr)(l1 c1:Nat)(p2:Option Addr)(l2 c2:Nat)(L:Nat)(s:Int)(w:World)
 (hs:s=if r=true then -1 else if 0<L then 1 else 0)
 (hM:∀ W,Below w.heap.size w W→Calls Tryz.prog 112 #[.agg #[.bool ba,.slice p1 l1 c1],.agg #[.bool bb,.slice p2 l2 c2]] W fun e w'=>∃ p c,e=.returned (.agg #[.bool r,.slice p L c])∧Below W.heap.size W w') :
 CR 78 #[.agg #[.bool ba,.slice p1 l1 c1],.agg #[.bool bb,.slice p2 l2 c2]] w (.int .i64 s):=by
 have HM:=Lib.hid hM;have HS:=Lib.hid (fun W p c=>og r p L c s hs W);have HW:=Lib.hid (((Below.refl w.heap.size w).alloc (Nat.le_refl _) (.cells #[.bool ba,.slice p1 l1 c1] 52)).alloc (by simp) (.cells #[.bool bb,.slice p2 l2 c2] 52));clear hM hs;go_enter func78,ntmps78
 go_wp2_with fail
 refine(HM.o _ HW.o).mono ?_;rintro e w1 ⟨p,c,rfl,hb1⟩;have u6:=Lib.hid (HW.o.trans (hb1.mono HW.o.size));clear hb1;go_wp2_with fail
 refine(HS.o w1 p c).mono ?_;rintro e w2 ⟨rfl,hb⟩;have rV:=Lib.hid (u6.o.trans (hb.mono u6.o.size));clear hb;go_wp2;go_ret
 exact⟨rfl,rV.o⟩
theorem zCmp (u1 u2:Value)(x y:Int)(hx:(aa x.natAbs).length≤50000)(hy:(aa y.natAbs).length≤50000)(w:World)(h1:Rz w u1 x)(h2:Rz w u2 y) :
 CR 78 #[u1,u2] w (.int .i64 (cmpZ x y)):=by
 obtain⟨p1,c1,rfl,r1⟩:=j5 h1;obtain⟨p2,c2,rfl,r2⟩:=j5 h2;refine z2B _ _ (decide (x-y<0)) p1 _ c1 p2 _ c2 (aa (x-y).natAbs).length (cmpZ x y) w ?_ ?_
 · have hl:=qJ (x-y).natAbs
   rcases Int.lt_trichotomy x y with h|h|h
   · rw[nW h,if_pos (decide_eq_true (by omega))]
   · subst h
     rw[rq,Int.sub_self];simp[aT]
   · rw[nX h,if_neg (by rw[decide_eq_false (by omega)];simp),if_pos]
     exact List.length_pos_iff.2 (by rw[bT (by omega)];simp)
 · intro W hW
   exact(qw rfl rfl (z4p _ _ x y hx hy W (Rz.below ⟨_,rfl,r1⟩ hW) (Rz.below ⟨_,rfl,r2⟩ hW))).mono fun e w' ⟨p,c,e1,_,e3⟩=>⟨p,c,e1,e3⟩
theorem sTo (z:Int)(s:ByteArray)(hs:Sz z=s)(hf:ae z≤10000)(hs2:(Sn z.natAbs).size≤100000)(p:Option Addr)(c:Nat)(w:World)(h:RN w (.slice p (ae z) c) z.natAbs) :
 CR 99 #[.agg #[.bool (ai z),.slice p (ae z) c]] w (.string s):=by subst hs;exact zTo _ z hf hs2 w (Rz.mk h)
theorem uH (z s:Int)(hs:z.sign=s)(p:Option Addr)(c:Nat)(w:World)(h:RN w (.slice p (ae z) c) z.natAbs) :
 CR 103 #[.agg #[.bool (ai z),.slice p (ae z) c]] w (.int .i64 s):=by subst hs;exact z3l _ z w (Rz.mk h)
theorem z4z (x y z:Int)(hz:x*y=z)(hx:ae x≤50000)(hy:ae y≤50000)(p1:Option Addr)(c1:Nat)(p2:Option Addr)(c2:Nat)(w:World)(r1:RN w (.slice p1 (ae x) c1) x.natAbs)(r2:RN w (.slice p2 (ae y) c2) y.natAbs) :
 CZ 73 #[.agg #[.bool (ai x),.slice p1 (ae x) c1],.agg #[.bool (ai y),.slice p2 (ae y) c2]] w z:=by subst hz;exact xR (z4m _ _ x y hx hy w (Rz.mk r1) (Rz.mk r2))
theorem z4D (x y z:Int)(hz:x+y=z)(hx:ae x≤50000)(hy:ae y≤50000)(p1:Option Addr)(c1:Nat)(p2:Option Addr)(c2:Nat)(w:World)(r1:RN w (.slice p1 (ae x) c1) x.natAbs)(r2:RN w (.slice p2 (ae y) c2) y.natAbs) :
 CZ 102 #[.agg #[.bool (ai x),.slice p1 (ae x) c1],.agg #[.bool (ai y),.slice p2 (ae y) c2]] w z:=by subst hz;exact xR (z4o _ _ x y hx hy w (Rz.mk r1) (Rz.mk r2))
theorem zH (x z:Int)(hz : -x=z)(hx:ae x≤1000000)(p1:Option Addr)(c1:Nat)(w:World)(r1:RN w (.slice p1 (ae x) c1) x.natAbs) :
 CZ 119 #[.agg #[.bool (ai x),.slice p1 (ae x) c1]] w z:=by subst hz;exact xR (rO _ x hx w (Rz.mk r1))
end Go.Proofs.YteihfbkaieemdaaGreatDoor
open Go.Lib (hid)
namespace Go.Proofs.YteihfbkaieemdaaGreatDoor
open Go.RowKit Go.Gb
theorem z4A (k:Int)(n:Nat)(hk:(n:Int)=k)(h0:0≤k)(h1:k≤2000000000)(w:World) :
 CZ 75 #[.int .i64 k] w k:=by
 have hl:ag n≤1000000:=Nat.le_trans (jA (show n≤2000000000 by omega)) (by decide +kernel);have C1:=hid (fun W=>rz k n hk (by omega) W);have C2:=hid (fun v W h=>mM false v n k (by rw[if_neg (by simp)];exact hk.symm) hl W h);have d0:decide (k<0)=false:=decide_eq_false (by omega);have e0:¬ k<0:=by omega
 clear hl hk;go_enter func75,ntmps75
 go_upto_region 1 with fail
 refine ay w [(#[.bool false,.slice none 0 0],52)] rfl ?_;rintro W0 ⟨k1,hb⟩;have wo:=hid (show Below w.heap.size w W0 from hb);have K1:=hid k1;clear k1 hb;go_wp2_with fail
 with_reducible refine(C1.o _).mono ?_
 rintro e W1 ⟨fq,l5,rfl,wm,hb⟩;have K1:=hid (K1.o.below hb);have u6:=hbt wo hb;have RN1:=hid wm;clear hb wm;go_wp2_with fail
 with_reducible refine(C2.o _ _ RN1.o).mono ?_
 rintro e W2 ⟨l6,lg,rfl,rM,hb⟩;have K1:=hid (K1.o.below hb);have rV:=hbt u6 hb;have RK:=hid rM;clear hb rM;obtain ⟨p8,w9⟩:=av K1.o rfl rfl;obtain ⟨bg,bn⟩:=bE K1.o;go_wp2;exact bodyPost_ret (v:=.agg #[.bool (ai k),.slice l6 (ae k) lg]) (by simp[results,results75,go_sem,p8,w9]) rfl ⟨_,_,rfl,(bC [.bool (ai k),.slice l6 (ae k) lg] RK.o K1.o (by simp[bQ]) (by simp[bi])),(ax (l:=[.bool (ai k),.slice l6 (ae k) lg]) (i:=0) (by omega) rV.o)⟩
open Go.Lib (hid)
theorem xD (v1 v2:Value)(a b q r:Nat)(hq:a / b=q)(hr:a%b=r)(hb:b≠0)(hl:ag a≤50000)(w:World)(h1:RN w v1 a)(h2:RN w v2 b) :
 Calls Tryz.prog 110 #[v1,v2] w fun e w'=>∃ p c p' c',e=.returned (.tuple #[.slice p (ag q) c,.slice p' (ag r) c'])∧RN w' (.slice p (ag q) c) q∧RN w' (.slice p' (ag r) c') r∧Below w.heap.size w w':=by
 subst hq hr;exact z5I v1 v2 a b hb hl w h1 h2
theorem zN {w:World}{p:Option Addr}{n c g:Nat}(h:RN w (.slice p n c) g)(hg:(aa g).length=1):∃ b o,p=some ⟨b,o,none⟩∧n=1∧w.cell? ⟨b,o,none⟩=some (.int .u32 (g:Int)):=by
 rcases h with⟨e,h⟩|⟨b,o,c',e,h2,h3,h4,h5⟩
 · rw[h]at hg;cases hg
 · injection e with e1 e2 e3
   refine⟨b,o,e1,by omega,?_⟩;have h6:=h5 0 (by omega);have hv:=aA g
   have hd:aa g=[(aa g).getD 0 0]:=by
    match hk:aa g,hg with
    | [x],_=>rfl
   rw[hd]at hv;have e0:(aa g).getD 0 0=g:=by simpa [aj] using hv
   rw[e0]at h6;exact h6
theorem yf (z:Int)(d:Nat)(hz:ae z≤50000)(hd:ag d≤50000)(p1:Option Addr)(c1:Nat)(s1:Option Addr)(d1:Nat)(hg:Nat.gcd z.natAbs d=1)(w:World)(r1:RN w (.slice p1 (ae z) c1) z.natAbs)(t1:RN w (.slice s1 (ag d) d1) d) :
 Calls Tryz.prog 72 #[.agg #[.bool (ai z),.slice p1 (ae z) c1],.slice s1 (ag d) d1] w fun e w'=>∃ p c s e1,e=.returned (.agg #[.bool (ai z),.slice p (ae z) c,.slice s (ag d) e1])∧RN w' (.slice p (ae z) c) z.natAbs∧RN w' (.slice s (ag d) e1) d∧Below w.heap.size w w':=by
 have C1:=hid (show ∀ v1 v2 W,RN W v1 z.natAbs→RN W v2 d→Calls Tryz.prog 109 #[v1,v2] W fun e w'=>∃ b o c,e=.returned (.slice (some ⟨b,o,none⟩) 1 c)∧w'.cell? ⟨b,o,none⟩=some (.int .u32 1)∧Below W.heap.size W w' from fun v1 v2 W h1 h2=>by
  refine(o7 v1 v2 z.natAbs d 1 hg hz hd W h1 h2).mono ?_;rintro e w' ⟨p,c,rfl,hr,hb⟩;obtain⟨b,o,rfl,_,h⟩:=zN hr qG;rw[qG]
  exact⟨b,o,c,rfl,h,hb⟩)
 clear hg hz hd;have R1:=hid r1;have T1:=hid t1;clear r1 t1;go_enter func72,ntmps72
 go_upto_region 1 with fail
 refine ay w [(#[.bool (ai z),.slice p1 (ae z) c1],52),(#[.bool false,.slice none 0 0,.slice none 0 0],54)] rfl ?_;rintro W0 ⟨k1,k2,hb⟩;have wo:=hid (show Below w.heap.size w W0 from hb);obtain ⟨R1,T1⟩:=aU wo.o R1 T1;obtain ⟨K1,K2⟩:=aD k1 k2;clear k1 k2 hb;have w9:=K1.o.cell (i:=1) rfl;go_wp2_with fail
 with_reducible refine(C1.o _ _ _ R1.o T1.o).mono ?_
 rintro e W1 ⟨fQ,ed,l5,rfl,wm,hb⟩;clear w9;obtain ⟨K1,K2,R1,T1⟩:=bF hb K1 K2 R1 T1;have u6:=hbt wo hb;have XC:=hid wm;clear hb wm;have dxc:=XC.o;obtain ⟨p8,w9⟩:=av K1.o rfl rfl;obtain ⟨pq,ol,oM⟩:=aO K2.o rfl rfl rfl;obtain ⟨kM,kV,gy⟩:=bZ K2.o;go_wp2;exact bodyPost_ret (v:=.agg #[.bool (ai z),.slice p1 (ae z) c1,.slice s1 (ag d) d1]) (by simp[results,results72,go_sem,pq,ol,oM]) rfl ⟨_,_,_,_,rfl,(bC [.bool (ai z),.slice p1 (ae z) c1,.slice s1 (ag d) d1] R1.o K2.o (by simp[bQ]) (by simp[bi])),(bC [.bool (ai z),.slice p1 (ae z) c1,.slice s1 (ag d) d1] T1.o K2.o (by simp[bQ]) (by simp[bi])),(ax (l:=[.bool (ai z),.slice p1 (ae z) c1,.slice s1 (ag d) d1]) (i:=0) (by omega) u6.o)⟩
theorem uN (z:Int)(d:Nat)(hz:ae z≤50000)(hd:ag d≤50000)(p1:Option Addr)(c1:Nat)(s1:Option Addr)(d1:Nat)(g a a1 b b1:Nat)(y:Int)(hg:Nat.gcd z.natAbs d=g)(g0:g≠0)(g1:g≠1)(gl:ag g=1)(ha:z.natAbs / g=a)(ha1:z.natAbs%g=a1)(hb:d / g=b)(hb1:d%g=b1)(hy:y=if ai z then -(a:Int) else (a:Int))(w:World)(r1:RN w (.slice p1 (ae z) c1) z.natAbs)(t1:RN w (.slice s1 (ag d) d1) d) :
 Calls Tryz.prog 72 #[.agg #[.bool (ai z),.slice p1 (ae z) c1],.slice s1 (ag d) d1] w fun e w'=>∃ p c s e1,e=.returned (.agg #[.bool (ai y),.slice p (ae y) c,.slice s (ag b) e1])∧RN w' (.slice p (ae y) c) y.natAbs∧RN w' (.slice s (ag b) e1) b∧Below w.heap.size w w':=by
 have C1:=hid (show ∀ v1 v2 W,RN W v1 z.natAbs→RN W v2 d→Calls Tryz.prog 109 #[v1,v2] W fun e w'=>∃ b o c,e=.returned (.slice (some ⟨b,o,none⟩) 1 c)∧w'.cell? ⟨b,o,none⟩=some (.int .u32 (g:Int))∧RN w' (.slice (some ⟨b,o,none⟩) 1 c) g∧Below W.heap.size W w' from fun v1 v2 W h1 h2=>by
  refine(o7 v1 v2 z.natAbs d g hg hz hd W h1 h2).mono ?_;rintro e w' ⟨p,c,rfl,hr,hb⟩;obtain⟨b,o,rfl,_,h⟩:=zN hr gl;rw[gl]at hr ⊢
  exact⟨b,o,c,rfl,h,hr,hb⟩)
 have C2:=hid (fun v1 v2 W h1 h2=>xD v1 v2 z.natAbs g a a1 ha ha1 g0 hz W h1 h2);have C3:=hid (fun v1 v2 W h1 h2=>xD v1 v2 d g b b1 hb hb1 g0 hd W h1 h2);have C4:=hid (fun v W h=>mM (ai z) v a y hy (by rw[← ha];exact Nat.le_trans (jA (Nat.div_le_self _ _)) (Nat.le_trans hz (by decide))) W h);have g1':((g:Int)==1)=false:=by rw[beq_eq_false_iff_ne];omega
 have g2':¬ (g:Int)=1:=by omega
 have g3':¬ g=1:=g1;clear gl g1 hg hz hd g0 ha ha1 hb hb1 hy;have R1:=hid r1;have T1:=hid t1;clear r1 t1;go_enter func72,ntmps72
 go_upto_region 1 with fail
 refine ay w [(#[.bool (ai z),.slice p1 (ae z) c1],52),(#[.bool false,.slice none 0 0,.slice none 0 0],54)] rfl ?_;rintro W0 ⟨k1,k2,hb⟩;have wo:=hid (show Below w.heap.size w W0 from hb);obtain ⟨R1,T1⟩:=aU wo.o R1 T1;obtain ⟨K1,K2⟩:=aD k1 k2;clear k1 k2 hb;have w9:=K1.o.cell (i:=1) rfl;go_wp2_with fail
 with_reducible refine(C1.o _ _ _ R1.o T1.o).mono ?_
 rintro e W1 ⟨fQ,ed,l5,rfl,wm,gF,hb⟩;clear w9;obtain ⟨K1,K2,R1,T1⟩:=bF hb K1 K2 R1 T1;have u6:=hbt wo hb;have XC:=hid wm;have RG:=hid gF;clear hb wm gF;have dxc:=XC.o;have w9:=K1.o.cell (i:=1) rfl;go_wp2_with fail
 with_reducible refine(C2.o _ _ _ R1.o RG.o).mono ?_
 rintro e W2 ⟨dn,dx,dz,dX,rfl,rM,oV,hb⟩;clear w9;obtain ⟨K1,K2,T1,RG⟩:=bF hb K1 K2 T1 RG;have rV:=hbt u6 hb;have RA:=hid rM;have RA1:=hid oV;clear hb rM oV;go_wp2_with fail
 with_reducible refine(C3.o _ _ _ T1.o RG.o).mono ?_
 rintro e W3 ⟨wu,ww,dY,cO,rfl,ma,mf,hb⟩;obtain ⟨K1,K2,RA⟩:=bP hb K1 K2 RA;have lv:=hbt rV hb;have RB:=hid ma;have RB1:=hid mf;clear hb ma mf;have p8:=K1.o.cell (i:=0) rfl;go_wp2_with fail
 with_reducible refine(C4.o _ _ RA.o).mono ?_
 rintro e W4 ⟨sw,r9,rfl,mi,hb⟩;clear p8;obtain ⟨K2,RB⟩:=aU hb K2 RB;have kz:=hbt lv hb;have RY:=hid mi;clear hb mi;obtain ⟨pq,ol,oM⟩:=aO K2.o rfl rfl rfl;obtain ⟨kM,kV,gy⟩:=bZ K2.o;go_wp2;exact bodyPost_ret (v:=.agg #[.bool (ai y),.slice sw (ae y) r9,.slice wu (ag b) ww]) (by simp[results,results72,go_sem,pq,ol,oM]) rfl ⟨_,_,_,_,rfl,(bC [.bool (ai y),.slice sw (ae y) r9,.slice wu (ag b) ww] RY.o K2.o (by simp[bQ]) (by simp[bi])),(bC [.bool (ai y),.slice sw (ae y) r9,.slice wu (ag b) ww] RB.o K2.o (by simp[bQ]) (by simp[bi])),(ax (l:=[.bool (ai y),.slice sw (ae y) r9,.slice wu (ag b) ww]) (i:=0) (by omega) kz.o)⟩
theorem uO (z:Int)(d:Nat)(hz:ae z≤50000)(hd:ag d≤50000)(p1:Option Addr)(c1:Nat)(s1:Option Addr)(d1:Nat)(g a a1 b b1:Nat)(y:Int)(hg:Nat.gcd z.natAbs d=g)(g0:g≠0)(gl:ag g≠1)(ha:z.natAbs / g=a)(ha1:z.natAbs%g=a1)(hb:d / g=b)(hb1:d%g=b1)(hy:y=if ai z then -(a:Int) else (a:Int))(w:World)(r1:RN w (.slice p1 (ae z) c1) z.natAbs)(t1:RN w (.slice s1 (ag d) d1) d) :
 Calls Tryz.prog 72 #[.agg #[.bool (ai z),.slice p1 (ae z) c1],.slice s1 (ag d) d1] w fun e w'=>∃ p c s e1,e=.returned (.agg #[.bool (ai y),.slice p (ae y) c,.slice s (ag b) e1])∧RN w' (.slice p (ae y) c) y.natAbs∧RN w' (.slice s (ag b) e1) b∧Below w.heap.size w w':=by
 have C1:=hid (fun v1 v2 W h1 h2=>o7 v1 v2 z.natAbs d g hg hz hd W h1 h2);have C2:=hid (fun v1 v2 W h1 h2=>xD v1 v2 z.natAbs g a a1 ha ha1 g0 hz W h1 h2);have C3:=hid (fun v1 v2 W h1 h2=>xD v1 v2 d g b b1 hb hb1 g0 hd W h1 h2);have C4:=hid (fun v W h=>mM (ai z) v a y hy (by rw[← ha];exact Nat.le_trans (jA (Nat.div_le_self _ _)) (Nat.le_trans hz (by decide))) W h);have g1':((ag g:Int)==1)=false:=by rw[beq_eq_false_iff_ne];omega
 have g2':¬ (ag g:Int)=1:=by omega
 have g3':¬ ag g=1:=gl;clear gl hg hz hd g0 ha ha1 hb hb1 hy;have R1:=hid r1;have T1:=hid t1;clear r1 t1;go_enter func72,ntmps72
 go_upto_region 1 with fail
 refine ay w [(#[.bool (ai z),.slice p1 (ae z) c1],52),(#[.bool false,.slice none 0 0,.slice none 0 0],54)] rfl ?_;rintro W0 ⟨k1,k2,hb⟩;have wo:=hid (show Below w.heap.size w W0 from hb);obtain ⟨R1,T1⟩:=aU wo.o R1 T1;obtain ⟨K1,K2⟩:=aD k1 k2;clear k1 k2 hb;have w9:=K1.o.cell (i:=1) rfl;go_wp2_with fail
 with_reducible refine(C1.o _ _ _ R1.o T1.o).mono ?_
 rintro e W1 ⟨fq,l5,rfl,wm,hb⟩;clear w9;obtain ⟨K1,K2,R1,T1⟩:=bF hb K1 K2 R1 T1;have u6:=hbt wo hb;have RG:=hid wm;clear hb wm;have w9:=K1.o.cell (i:=1) rfl;go_wp2_with fail
 with_reducible refine(C2.o _ _ _ R1.o RG.o).mono ?_
 rintro e W2 ⟨dn,dx,dz,dX,rfl,rM,oV,hb⟩;clear w9;obtain ⟨K1,K2,T1,RG⟩:=bF hb K1 K2 T1 RG;have rV:=hbt u6 hb;have RA:=hid rM;have RA1:=hid oV;clear hb rM oV;go_wp2_with fail
 with_reducible refine(C3.o _ _ _ T1.o RG.o).mono ?_
 rintro e W3 ⟨wu,ww,dY,cO,rfl,ma,mf,hb⟩;obtain ⟨K1,K2,RA⟩:=bP hb K1 K2 RA;have lv:=hbt rV hb;have RB:=hid ma;have RB1:=hid mf;clear hb ma mf;have p8:=K1.o.cell (i:=0) rfl;go_wp2_with fail
 with_reducible refine(C4.o _ _ RA.o).mono ?_
 rintro e W4 ⟨sw,r9,rfl,mi,hb⟩;clear p8;obtain ⟨K2,RB⟩:=aU hb K2 RB;have kz:=hbt lv hb;have RY:=hid mi;clear hb mi;obtain ⟨pq,ol,oM⟩:=aO K2.o rfl rfl rfl;obtain ⟨kM,kV,gy⟩:=bZ K2.o;go_wp2;exact bodyPost_ret (v:=.agg #[.bool (ai y),.slice sw (ae y) r9,.slice wu (ag b) ww]) (by simp[results,results72,go_sem,pq,ol,oM]) rfl ⟨_,_,_,_,rfl,(bC [.bool (ai y),.slice sw (ae y) r9,.slice wu (ag b) ww] RY.o K2.o (by simp[bQ]) (by simp[bi])),(bC [.bool (ai y),.slice sw (ae y) r9,.slice wu (ag b) ww] RB.o K2.o (by simp[bQ]) (by simp[bi])),(ax (l:=[.bool (ai y),.slice sw (ae y) r9,.slice wu (ag b) ww]) (i:=0) (by omega) kz.o)⟩
