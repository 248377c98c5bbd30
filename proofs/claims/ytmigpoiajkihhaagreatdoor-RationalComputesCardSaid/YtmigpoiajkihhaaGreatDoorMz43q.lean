/- Texts of this proof, one behind the other. -/
import Derived.Test.YtmigpoiajkihhaaGreatDoorZd
namespace Go.Proofs.YtmigpoiajkihhaaGreatDoor
open Go.RowKit Go.Gb
theorem rz_of {w:World}{v:Value}{n:Nat}{z:Int}{r:Bool}(hr:r=decide (z<0))(hn:z.natAbs=n)(h:Rd .u32 w v (digs n)):Rz w (.agg #[.bool r,v]) z:=⟨v,by rw[hr],by rw[hn];exact h⟩
theorem dn_len (a b:Nat)(h:(digs a).length≤50000):(digs (a-b)).length≤1000000:=by have:=digs_length_mono (Nat.sub_le a b);omega
theorem rz_fin {f:FuncId}{args:Array Value}{w:World}{z:Int}(h:Calls Tryz.prog f args w fun e w'=>∃ p c,e=.returned (.agg #[.bool (zneg z),.slice p (zlen z) c])∧RN w' (.slice p (zlen z) c) z.natAbs∧Below w.heap.size w w') :
 Calls Tryz.prog f args w fun e w'=>∃ u,e=.returned u∧Rz w' u z∧Below w.heap.size w w' :=
 h.mono fun _ _ ⟨_,_,e,r,hb⟩=>⟨_,e,Rz.mk r,hb⟩
theorem plus_same {x y:Int}(h:(zneg x==zneg y)=true):x+y=(if zneg x=true then -((x.natAbs+y.natAbs:Nat):Int) else ((x.natAbs+y.natAbs:Nat):Int)):=by
 unfold zneg at *
 by_cases hx:x<0<;>by_cases hy:y<0<;>simp[hx,hy]at h ⊢ <;> omega
theorem plus_other {x y:Int}(h:(zneg x==zneg y)=false):(y.natAbs≤x.natAbs→x+y=(if zneg x=true then -((x.natAbs-y.natAbs:Nat):Int) else ((x.natAbs-y.natAbs:Nat):Int)))∧(x.natAbs<y.natAbs→x+y=(if zneg y=true then -((y.natAbs-x.natAbs:Nat):Int) else ((y.natAbs-x.natAbs:Nat):Int))):=by
 unfold zneg at *
 by_cases hx:x<0<;>by_cases hy:y<0<;>simp[hx,hy]at h ⊢ <;> constructor<;>intro h2<;>omega
theorem zPlus (u1 u2:Value)(x y:Int)(hx:(digs x.natAbs).length≤50000)(hy:(digs y.natAbs).length≤50000)(w:World)(h1:Rz w u1 x)(h2:Rz w u2 y) :
 Calls Tryz.prog 100 #[u1,u2] w fun e w'=>∃ u,e=.returned u∧Rz w' u (x+y)∧Below w.heap.size w w':=by
 obtain⟨p1,c1,rfl,r1⟩:=h1.sh
 obtain⟨p2,c2,rfl,r2⟩:=h2.sh
 have hsl:=digs_add_len hx hy
 have hx':nlen x.natAbs≤50000:=hx
 have hy':nlen y.natAbs≤50000:=hy
 have hsl':nlen (x.natAbs+y.natAbs)≤50001:=hsl
 have hd1:nlen (x.natAbs-y.natAbs)≤1000000:=dn_len _ _ hx
 have hd2:nlen (y.natAbs-x.natAbs)≤1000000:=dn_len _ _ hy
 refine rz_fin ?_
 cases hs:(zneg x==zneg y) with
 | true=>exact ZPlus_same x y (x+y) (x.natAbs+y.natAbs) hs p1 c1 p2 c2 w (fun p1 c1 p2 c2 W h1 h2=>cPlus _ _ _ _ (by omega) (by omega) W h1 h2) (fun s d W h=>cMake _ _ _ _ (plus_same hs) (by omega) W h) r1 r2
 | false =>
   rcases Nat.lt_or_ge x.natAbs y.natAbs with h|h
   · exact ZPlus_lt x y (x+y) (y.natAbs-x.natAbs) (-1) (by decide) hs p1 c1 p2 c2 w (fun p1 c1 p2 c2 W h1 h2=>by have k:=cCmp (.slice p1 (zlen x) c1) (.slice p2 (zlen y) c2) x.natAbs y.natAbs (by omega) W h1 h2;rwa [cmpN_lt h]at k) (fun p1 c1 p2 c2 W h1 h2=>cMinus _ _ _ _ (by omega) (by omega) W h1 h2) (fun s d W h'=>cMake _ _ _ _ ((plus_other hs).2 h) hd2 W h') r1 r2
   · exact ZPlus_ge x y (x+y) (x.natAbs-y.natAbs) (cmpN x.natAbs y.natAbs) (by unfold cmpN;split<;>(try split)<;>omega) hs p1 c1 p2 c2 w (fun p1 c1 p2 c2 W h1 h2=>cCmp _ _ _ _ (by omega) W h1 h2) (fun p1 c1 p2 c2 W h1 h2=>cMinus _ _ _ _ h (by omega) W h1 h2) (fun s d W h'=>cMake _ _ _ _ ((plus_other hs).1 h) hd1 W h') r1 r2
theorem times_sign (x y:Int):x*y=(if (decide (x<0) != decide (y<0)) then -((x.natAbs*y.natAbs:Nat):Int) else ((x.natAbs*y.natAbs:Nat):Int)):=by
 rw[Int.natCast_mul]
 by_cases hx:x<0
 · by_cases hy:y<0
   · have e1:(x.natAbs:Int) = -x:=by omega
     have e2:(y.natAbs:Int) = -y:=by omega
     rw[e1,e2];simp[hx,hy,Int.neg_mul,Int.mul_neg]
   · have e1:(x.natAbs:Int) = -x:=by omega
     have e2:(y.natAbs:Int)=y:=by omega
     rw[e1,e2];simp[hx,hy,Int.neg_mul]
 · by_cases hy:y<0
   · have e1:(x.natAbs:Int)=x:=by omega
     have e2:(y.natAbs:Int) = -y:=by omega
     rw[e1,e2];simp[hx,hy,Int.mul_neg]
   · have e1:(x.natAbs:Int)=x:=by omega
     have e2:(y.natAbs:Int)=y:=by omega
     rw[e1,e2];simp[hx,hy]
theorem zTimes (u1 u2:Value)(x y:Int)(hx:(digs x.natAbs).length≤50000)(hy:(digs y.natAbs).length≤50000)(w:World)(h1:Rz w u1 x)(h2:Rz w u2 y) :
 Calls Tryz.prog 101 #[u1,u2] w fun e w'=>∃ u,e=.returned u∧Rz w' u (x*y)∧Below w.heap.size w w':=by
 obtain⟨p1,c1,rfl,r1⟩:=h1.sh
 obtain⟨p2,c2,rfl,r2⟩:=h2.sh
 have hml:=digs_mul_len x.natAbs y.natAbs
 have hml':nlen (x.natAbs*y.natAbs)≤nlen x.natAbs+nlen y.natAbs:=hml
 have hx':nlen x.natAbs≤50000:=hx
 have hy':nlen y.natAbs≤50000:=hy
 exact rz_fin (ZTimes_any x y (x*y) (x.natAbs*y.natAbs) p1 c1 p2 c2 w (fun p1 c1 p2 c2 W h1 h2=>cTimes _ _ _ _ (by omega) (by omega) W h1 h2) (fun s d W h=>cMake _ _ _ _ (times_sign x y) (by omega) W h) r1 r2)
theorem rd_set_z {w:World}{v:Value}{xs:List Nat}{g:Nat}{b:Bool}{q:Option Addr}{l c:Nat}{T:TypeId}{fz:Nat × Nat}(hg:w.heap[g]? = some (.cells #[.bool b,.slice q l c] T fz))(h:Rd .u32 w v xs)(i:Nat)(u:Value):Rd .u32 (w.setCell ⟨g,i,none⟩ u) v xs:=by
 rcases h with h|⟨b',o,c',h1,h2,h3,h4,h5⟩
 · exact Or.inl h
 · refine Or.inr ⟨b',o,c',h1,h2,h3,by simpa [World.setCell] using h4,fun j hj=>?_⟩
   have h6:=h5 j hj
   have hne:b'≠g:=by
    intro e
    subst e
    simp only[World.cell?,hg]at h6
    match hk:o+j with
    | 0=>rw[hk]at h6;simp at h6
    | 1=>rw[hk]at h6;simp at h6
    | n+2=>rw[hk]at h6;simp at h6
   exact(wc_ne hne).trans h6
end Go.Proofs.YtmigpoiajkihhaaGreatDoor
set_option maxRecDepth 100000
set_option maxHeartbeats 20000000
open Go.Lib (hid)
namespace Go.Proofs.YtmigpoiajkihhaaGreatDoor
open Go.RowKit Go.Gb
theorem heap_keep {W W':World}{g:Nat}{o:Obj}(h:W.heap[g]? = some o)(hb:Below W.heap.size W W'):W'.heap[g]? = some o:=by
 rw[hb.block g (Array.getElem?_eq_some_iff.1 h).1];exact h
theorem heap_set {W:World}{g i:Nat}{b b':Bool}{q:Option Addr}{l c:Nat}{T:TypeId}{fz:Nat × Nat}(h:W.heap[g]? = some (.cells #[.bool b,.slice q l c] T fz))(hi:i=0):(W.setCell ⟨g,i,none⟩ (.bool b')).heap[g]? = some (.cells #[.bool b',.slice q l c] T fz):=by
 subst hi
 simp only[World.setCell,Array.getElem?_modify,h]
 simp
theorem ZMinus_raw (ba bb ob r:Bool)(p1:Option Addr)(l1 c1:Nat)(p2:Option Addr)(l2 c2:Nat)(m n L:Nat)(w:World)
 (hO:∀ W,Below w.heap.size w W→Calls Tryz.prog 121 #[.agg #[.bool bb,.slice p2 l2 c2]] W fun e w'=>∃ p c,e=.returned (.agg #[.bool ob,.slice p l2 c])∧Rd .u32 w' (.slice p l2 c) (digs m)∧Below W.heap.size W w')
 (hQ:∀ W p c,Below w.heap.size w W→Rd .u32 W (.slice p l2 c) (digs m)→Calls Tryz.prog 100 #[.agg #[.bool ba,.slice p1 l1 c1],.agg #[.bool ob,.slice p l2 c]] W fun e w'=>∃ p' c',e=.returned (.agg #[.bool r,.slice p' L c'])∧Rd .u32 w' (.slice p' L c') (digs n)∧Below W.heap.size W w') :
 Calls Tryz.prog 137 #[.agg #[.bool ba,.slice p1 l1 c1],.agg #[.bool bb,.slice p2 l2 c2]] w fun e w'=>∃ v,e=.returned (.agg #[.bool r,v])∧Rd .u32 w' v (digs n)∧Below w.heap.size w w':=by
 have HO:=hid hO
 have HQ:=hid hQ
 have HW:=hid (((((Below.refl w.heap.size w).alloc (Nat.le_refl _) (.cells #[.bool ba,.slice p1 l1 c1] 50)).alloc (by simp) (.cells #[.bool bb,.slice p2 l2 c2] 50)).alloc (by simp;omega) (.cells #[.bool false,.slice none 0 0] 50)))
 have AH:=hid (show(((w.alloc (.cells #[.bool ba,.slice p1 l1 c1] 50)).alloc (.cells #[.bool bb,.slice p2 l2 c2] 50)).alloc (.cells #[.bool false,.slice none 0 0] 50)).heap[w.heap.size+1+1]? = some (.cells #[.bool false,.slice none 0 0] 50 (0,0)) by
  rw[show w.heap.size+1+1=((w.alloc (.cells #[.bool ba,.slice p1 l1 c1] 50)).alloc (.cells #[.bool bb,.slice p2 l2 c2] 50)).heap.size by simp];exact heap_alloc_new _ _)
 have A00:=hid (show(((w.alloc (.cells #[.bool ba,.slice p1 l1 c1] 50)).alloc (.cells #[.bool bb,.slice p2 l2 c2] 50)).alloc (.cells #[.bool false,.slice none 0 0] 50)).cell? ⟨w.heap.size,0,none⟩=some (.bool ba) by rw[wc_alloc (by simp;omega),wc_alloc (by simp),wc_new rfl];rfl)
 have A01:=hid (show(((w.alloc (.cells #[.bool ba,.slice p1 l1 c1] 50)).alloc (.cells #[.bool bb,.slice p2 l2 c2] 50)).alloc (.cells #[.bool false,.slice none 0 0] 50)).cell? ⟨w.heap.size,1,none⟩=some (.slice p1 l1 c1) by rw[wc_alloc (by simp;omega),wc_alloc (by simp),wc_new rfl];rfl)
 have A10:=hid (show(((w.alloc (.cells #[.bool ba,.slice p1 l1 c1] 50)).alloc (.cells #[.bool bb,.slice p2 l2 c2] 50)).alloc (.cells #[.bool false,.slice none 0 0] 50)).cell? ⟨w.heap.size+1,0,none⟩=some (.bool bb) by rw[wc_alloc (by simp),wc_new (by simp)];rfl)
 have A11:=hid (show(((w.alloc (.cells #[.bool ba,.slice p1 l1 c1] 50)).alloc (.cells #[.bool bb,.slice p2 l2 c2] 50)).alloc (.cells #[.bool false,.slice none 0 0] 50)).cell? ⟨w.heap.size+1,1,none⟩=some (.slice p2 l2 c2) by rw[wc_alloc (by simp),wc_new (by simp)];rfl)
 have A20:=hid (show(((w.alloc (.cells #[.bool ba,.slice p1 l1 c1] 50)).alloc (.cells #[.bool bb,.slice p2 l2 c2] 50)).alloc (.cells #[.bool false,.slice none 0 0] 50)).cell? ⟨w.heap.size+1+1,0,none⟩=some (.bool false) by rw[wc_new (by simp)];rfl)
 have A21:=hid (show(((w.alloc (.cells #[.bool ba,.slice p1 l1 c1] 50)).alloc (.cells #[.bool bb,.slice p2 l2 c2] 50)).alloc (.cells #[.bool false,.slice none 0 0] 50)).cell? ⟨w.heap.size+1+1,1,none⟩=some (.slice none 0 0) by rw[wc_new (by simp)];rfl)
 have F0:=hid (show(((w.alloc (.cells #[.bool ba,.slice p1 l1 c1] 50)).alloc (.cells #[.bool bb,.slice p2 l2 c2] 50)).alloc (.cells #[.bool false,.slice none 0 0] 50)).frozen? ⟨w.heap.size+1+1,0,none⟩=false by rw[wf_new (by simp)])
 have F1:=hid (show(((w.alloc (.cells #[.bool ba,.slice p1 l1 c1] 50)).alloc (.cells #[.bool bb,.slice p2 l2 c2] 50)).alloc (.cells #[.bool false,.slice none 0 0] 50)).frozen? ⟨w.heap.size+1+1,1,none⟩=false by rw[wf_new (by simp)])
 clear hO hQ
 go_enter Tryz.func137,Tryz.ntmps137
 go_wp2
 go_region_held3 (fun w'=>w'.cell? ⟨w.heap.size,0,none⟩=some (.bool ba)∧w'.cell? ⟨w.heap.size,1,none⟩=some (.slice p1 l1 c1)∧w'.cell? ⟨w.heap.size+1,0,none⟩=some (.bool bb)∧w'.cell? ⟨w.heap.size+1,1,none⟩=some (.slice p2 l2 c2)) (first|((try go_split_ands);refine⟨?_,?_,?_,?_⟩<;>(first|(with_reducible assumption)|((repeat (first|rw[wc_drew]|rw[wc_alloc (by first|assumption|omega|(simp;done)|(simp;omega))]|rw[wc_ne (by omega)]));first|(with_reducible assumption)|(simp;done))))|(go_keep;done))
  (first|(go_at_call 121;refine(HO.out _ ?bd).mono ?_;(case bd=>first|exact HW.out|exact HW.out.drew);rintro e w1 ⟨po,co,rfl,ro,hb1⟩;obtain⟨hc1,hf1⟩:=bcell hb1;have hs1:=hb1.size;(try simp at hs1);have q10:w.heap.size<w1.heap.size:=(by omega);have q11:w.heap.size+1<w1.heap.size:=(by omega);have q12:w.heap.size+1+1<w1.heap.size:=(by omega);have s100:w1.cell? ⟨w.heap.size,0,none⟩=some (.bool ba):=(by rw[hc1 _ _ (by first|assumption|omega|(simp;done)|(simp;omega))];first|(with_reducible assumption)|exact A00.out);have s101:w1.cell? ⟨w.heap.size,1,none⟩=some (.slice p1 l1 c1):=(by rw[hc1 _ _ (by first|assumption|omega|(simp;done)|(simp;omega))];first|(with_reducible assumption)|exact A01.out);have s110:w1.cell? ⟨w.heap.size+1,0,none⟩=some (.bool bb):=(by rw[hc1 _ _ (by first|assumption|omega|(simp;done)|(simp;omega))];first|(with_reducible assumption)|exact A10.out);have s111:w1.cell? ⟨w.heap.size+1,1,none⟩=some (.slice p2 l2 c2):=(by rw[hc1 _ _ (by first|assumption|omega|(simp;done)|(simp;omega))];first|(with_reducible assumption)|exact A11.out);have s120:w1.cell? ⟨w.heap.size+1+1,0,none⟩=some (.bool false):=(by rw[hc1 _ _ (by first|assumption|omega|(simp;done)|(simp;omega))];first|(with_reducible assumption)|exact A20.out);have s121:w1.cell? ⟨w.heap.size+1+1,1,none⟩=some (.slice none 0 0):=(by rw[hc1 _ _ (by first|assumption|omega|(simp;done)|(simp;omega))];first|(with_reducible assumption)|exact A21.out);have f10:w1.frozen? ⟨w.heap.size+1+1,0,none⟩=false:=(by rw[hf1 _ _ (by first|assumption|omega|(simp;done)|(simp;omega))];first|(with_reducible assumption)|exact F0.out);have f11:w1.frozen? ⟨w.heap.size+1+1,1,none⟩=false:=(by rw[hf1 _ _ (by first|assumption|omega|(simp;done)|(simp;omega))];first|(with_reducible assumption)|exact F1.out);have HB1:=hid (show Below w.heap.size w w1 from Below.trans HW.out (by first|exact hb1.mono (by first|omega|(simp;omega)|simp)|exact Below.trans (Below.drew (Below.refl _ _)) (hb1.mono (by first|omega|(simp;omega)|simp))));have RO:=hid ro;have hg1:=hid (show w1.heap[w.heap.size+1+1]? = some (.cells #[.bool false,.slice none 0 0] 50 (0,0)) from(by refine heap_keep ?_ hb1;exact AH.out)))|(go_at_call 100;refine(HQ.out w1 po co HB1.out RO.out).mono ?_;rintro e w2 ⟨pv,cv,rfl,rv,hb2⟩;obtain⟨hc2,hf2⟩:=bcell hb2;have hs2:=hb2.size;(try simp at hs2);have q20:w.heap.size<w2.heap.size:=(by omega);have q21:w.heap.size+1<w2.heap.size:=(by omega);have q22:w.heap.size+1+1<w2.heap.size:=(by omega);have s200:w2.cell? ⟨w.heap.size,0,none⟩=some (.bool ba):=(by rw[hc2 _ _ (by first|assumption|omega|(simp;done)|(simp;omega))];first|(with_reducible assumption)|exact A00.out);have s201:w2.cell? ⟨w.heap.size,1,none⟩=some (.slice p1 l1 c1):=(by rw[hc2 _ _ (by first|assumption|omega|(simp;done)|(simp;omega))];first|(with_reducible assumption)|exact A01.out);have s210:w2.cell? ⟨w.heap.size+1,0,none⟩=some (.bool bb):=(by rw[hc2 _ _ (by first|assumption|omega|(simp;done)|(simp;omega))];first|(with_reducible assumption)|exact A10.out);have s211:w2.cell? ⟨w.heap.size+1,1,none⟩=some (.slice p2 l2 c2):=(by rw[hc2 _ _ (by first|assumption|omega|(simp;done)|(simp;omega))];first|(with_reducible assumption)|exact A11.out);have s220:w2.cell? ⟨w.heap.size+1+1,0,none⟩=some (.bool false):=(by rw[hc2 _ _ (by first|assumption|omega|(simp;done)|(simp;omega))];first|(with_reducible assumption)|exact A20.out);have s221:w2.cell? ⟨w.heap.size+1+1,1,none⟩=some (.slice none 0 0):=(by rw[hc2 _ _ (by first|assumption|omega|(simp;done)|(simp;omega))];first|(with_reducible assumption)|exact A21.out);have f20:w2.frozen? ⟨w.heap.size+1+1,0,none⟩=false:=(by rw[hf2 _ _ (by first|assumption|omega|(simp;done)|(simp;omega))];first|(with_reducible assumption)|exact F0.out);have f21:w2.frozen? ⟨w.heap.size+1+1,1,none⟩=false:=(by rw[hf2 _ _ (by first|assumption|omega|(simp;done)|(simp;omega))];first|(with_reducible assumption)|exact F1.out);have hg2:=hid (heap_keep hg1.out hb2))|fail)
 all_goals
  go_wp2
  have HB:Below w.heap.size w w2:=HB1.out.trans (hb2.mono HB1.out.size)
  refine bodyPost_ret (v:=.agg #[.bool r,.slice pv L cv]) (by simp[results,Tryz.results137,go_sem,s220,s221]) rfl ⟨_,rfl,?_,?_⟩
  · exact rd_set_z (heap_set hg2.out rfl) (rd_set_z hg2.out rv 0 _) 1 _
  · exact(HB.setCell (p:=⟨w.heap.size+1+1,0,none⟩) (by show w.heap.size≤w.heap.size+1+1;omega) _).setCell (p:=⟨w.heap.size+1+1,1,none⟩) (by show w.heap.size≤w.heap.size+1+1;omega) _
theorem zMinus (u1 u2:Value)(x y:Int)(hx:(digs x.natAbs).length≤50000)(hy:(digs y.natAbs).length≤50000)(w:World)(h1:Rz w u1 x)(h2:Rz w u2 y) :
 Calls Tryz.prog 137 #[u1,u2] w fun e w'=>∃ u,e=.returned u∧Rz w' u (x-y)∧Below w.heap.size w w':=by
 obtain⟨p1,c1,rfl,r1⟩:=rz_form h1
 obtain⟨p2,c2,rfl,r2⟩:=rz_form h2
 refine(ZMinus_raw (decide (x<0)) (decide (y<0)) (decide (-y<0)) (decide (x-y<0)) p1 _ c1 p2 _ c2 (-y).natAbs (x-y).natAbs (digs (x-y).natAbs).length w ?_ ?_).mono ?_
 · intro W hW
   have h:=zOpposite _ y (by omega) W (Rz.below ⟨_,rfl,r2⟩ hW)
   exact rz_slice rfl (by rw[Int.natAbs_neg]) h
 · intro W p c hW hr
   have h:=zPlus (.agg #[.bool (decide (x<0)),.slice p1 (digs x.natAbs).length c1]) (.agg #[.bool (decide (-y<0)),.slice p (digs y.natAbs).length c]) x (-y) hx (by rw[Int.natAbs_neg];exact hy) W (Rz.below ⟨_,rfl,r1⟩ hW) ⟨_,rfl,hr⟩
   rw[← Int.sub_eq_add_neg]at h
   exact rz_slice rfl rfl h
 · rintro e w' ⟨v,e1,e2,e3⟩
   exact⟨_,e1,⟨_,rfl,e2⟩,e3⟩
end Go.Proofs.YtmigpoiajkihhaaGreatDoor
set_option maxRecDepth 100000
set_option maxHeartbeats 20000000
namespace Go.Proofs.YtmigpoiajkihhaaGreatDoor
open Go.RowKit Go.Gb
theorem ZCmp_raw (ba bb r:Bool)(p1:Option Addr)(l1 c1:Nat)(p2:Option Addr)(l2 c2:Nat)(L:Nat)(s:Int)(w:World)
 (hs:s=if r=true then -1 else if 0<L then 1 else 0)
 (hM:∀ W,Below w.heap.size w W→Calls Tryz.prog 137 #[.agg #[.bool ba,.slice p1 l1 c1],.agg #[.bool bb,.slice p2 l2 c2]] W fun e w'=>∃ p c,e=.returned (.agg #[.bool r,.slice p L c])∧Below W.heap.size W w') :
 CR 90 #[.agg #[.bool ba,.slice p1 l1 c1],.agg #[.bool bb,.slice p2 l2 c2]] w (.int .i64 s):=by
 have HM:=Lib.hid hM
 have HS:=Lib.hid (fun W p c=>ZSignum_raw r p L c s hs W)
 have HW:=Lib.hid (((Below.refl w.heap.size w).alloc (Nat.le_refl _) (.cells #[.bool ba,.slice p1 l1 c1] 50)).alloc (by simp) (.cells #[.bool bb,.slice p2 l2 c2] 50))
 clear hM hs
 go_enter Tryz.func90,Tryz.ntmps90
 go_wp2_with fail
 refine(HM.out _ HW.out).mono ?_
 rintro e w1 ⟨p,c,rfl,hb1⟩
 have HB1:=Lib.hid (HW.out.trans (hb1.mono HW.out.size))
 clear hb1
 go_wp2_with fail
 refine(HS.out w1 p c).mono ?_
 rintro e w2 ⟨rfl,hb⟩
 have HB2:=Lib.hid (HB1.out.trans (hb.mono HB1.out.size))
 clear hb
 go_wp2
 go_ret
 exact⟨rfl,HB2.out⟩
open Go.RowKit Go.Gb
theorem zCmp (u1 u2:Value)(x y:Int)(hx:(digs x.natAbs).length≤50000)(hy:(digs y.natAbs).length≤50000)(w:World)(h1:Rz w u1 x)(h2:Rz w u2 y) :
 CR 90 #[u1,u2] w (.int .i64 (cmpZ x y)):=by
 obtain⟨p1,c1,rfl,r1⟩:=rz_form h1
 obtain⟨p2,c2,rfl,r2⟩:=rz_form h2
 refine ZCmp_raw _ _ (decide (x-y<0)) p1 _ c1 p2 _ c2 (digs (x-y).natAbs).length (cmpZ x y) w ?_ ?_
 · have hl:=len_pos (x-y).natAbs
   rcases Int.lt_trichotomy x y with h|h|h
   · rw[cmpZ_lt h,if_pos (decide_eq_true (by omega))]
   · subst h
     rw[cmpZ_eq,Int.sub_self]
     simp[digs_zero]
   · rw[cmpZ_gt h,if_neg (by rw[decide_eq_false (by omega)];simp),if_pos]
     exact List.length_pos_iff.2 (by rw[digs_pos (by omega)];simp)
 · intro W hW
   exact(rz_slice rfl rfl (zMinus _ _ x y hx hy W (Rz.below ⟨_,rfl,r1⟩ hW) (Rz.below ⟨_,rfl,r2⟩ hW))).mono fun e w' ⟨p,c,e1,_,e3⟩=>⟨p,c,e1,e3⟩
open Go.RowKit Go.Gb
theorem sTo (z:Int)(s:ByteArray)(hs:Sz z=s)(hf:zlen z≤10000)(hs2:(Sn z.natAbs).size≤100000)(p:Option Addr)(c:Nat)(w:World)(h:RN w (.slice p (zlen z) c) z.natAbs) :
 CR 56 #[.agg #[.bool (zneg z),.slice p (zlen z) c]] w (.string s):=by subst hs;exact zTo _ z hf hs2 w (Rz.mk h)
theorem sSignum (z s:Int)(hs:z.sign=s)(p:Option Addr)(c:Nat)(w:World)(h:RN w (.slice p (zlen z) c) z.natAbs) :
 CR 38 #[.agg #[.bool (zneg z),.slice p (zlen z) c]] w (.int .i64 s):=by subst hs;exact zSignum _ z w (Rz.mk h)
theorem sTimes (x y z:Int)(hz:x*y=z)(hx:zlen x≤50000)(hy:zlen y≤50000)(p1:Option Addr)(c1:Nat)(p2:Option Addr)(c2:Nat)(w:World)(r1:RN w (.slice p1 (zlen x) c1) x.natAbs)(r2:RN w (.slice p2 (zlen y) c2) y.natAbs) :
 CZ 101 #[.agg #[.bool (zneg x),.slice p1 (zlen x) c1],.agg #[.bool (zneg y),.slice p2 (zlen y) c2]] w z:=by subst hz;exact rz_sh (zTimes _ _ x y hx hy w (Rz.mk r1) (Rz.mk r2))
theorem sPlus (x y z:Int)(hz:x+y=z)(hx:zlen x≤50000)(hy:zlen y≤50000)(p1:Option Addr)(c1:Nat)(p2:Option Addr)(c2:Nat)(w:World)(r1:RN w (.slice p1 (zlen x) c1) x.natAbs)(r2:RN w (.slice p2 (zlen y) c2) y.natAbs) :
 CZ 100 #[.agg #[.bool (zneg x),.slice p1 (zlen x) c1],.agg #[.bool (zneg y),.slice p2 (zlen y) c2]] w z:=by subst hz;exact rz_sh (zPlus _ _ x y hx hy w (Rz.mk r1) (Rz.mk r2))
theorem sOpposite (x z:Int)(hz : -x=z)(hx:zlen x≤1000000)(p1:Option Addr)(c1:Nat)(w:World)(r1:RN w (.slice p1 (zlen x) c1) x.natAbs) :
 CZ 121 #[.agg #[.bool (zneg x),.slice p1 (zlen x) c1]] w z:=by subst hz;exact rz_sh (zOpposite _ x hx w (Rz.mk r1))
end Go.Proofs.YtmigpoiajkihhaaGreatDoor
set_option maxRecDepth 100000
set_option maxHeartbeats 20000000
open Go.Lib (hid)
namespace Go.Proofs.YtmigpoiajkihhaaGreatDoor
open Go.RowKit Go.Gb
theorem sSmall (k:Int)(n:Nat)(hk:(n:Int)=k)(h0:0≤k)(h1:k≤1000000)(w:World) :
 CZ 112 #[.int .i64 k] w k:=by
 have hl:nlen n≤1000000:=Nat.le_trans (nlen_mono (show n≤1000000 by omega)) (by decide +kernel)
 have C1:=hid (fun W=>cSmallL k n hk (by omega) W)
 have C2:=hid (fun v W h=>cMake false v n k (by rw[if_neg (by simp)];exact hk.symm) hl W h)
 have d0:decide (k<0)=false:=decide_eq_false (by omega)
 have e0:¬ k<0:=by omega
 clear hl hk
 go_enter Tryz.func112,Tryz.ntmps112
 go_upto_region 1 with fail
 refine wp_boxes w [(#[.bool false,.slice none 0 0],50)] rfl ?_
 rintro W0 ⟨k1,hb⟩
 have HB0:=hid (show Below w.heap.size w W0 from hb)
 have K1:=hid k1
 clear k1 hb
 go_wp2_with fail
 with_reducible refine(C1.out _).mono ?_
 rintro e W1 ⟨p_1,c_1,rfl,r1_0,hb⟩
 have K1:=hid (K1.out.below hb)
 have HB1:=hbt HB0 hb
 have RN1:=hid r1_0
 clear hb r1_0
 go_wp2_with fail
 with_reducible refine(C2.out _ _ RN1.out).mono ?_
 rintro e W2 ⟨p_2,c_2,rfl,r2_0,hb⟩
 have K1:=hid (K1.out.below hb)
 have HB2:=hbt HB1 hb
 have RK:=hid r2_0
 clear hb r2_0
 have dK10:=K1.out.cell (i:=0) rfl
 have dK11:=K1.out.cell (i:=1) rfl
 have fK10:=K1.out.frozen (i:=0)
 have fK11:=K1.out.frozen (i:=1)
 go_wp2
 exact bodyPost_ret (v:=.agg #[.bool (zneg k),.slice p_2 (zlen k) c_2]) (by simp[results,Tryz.results112,go_sem,dK10,dK11]) rfl ⟨_,_,rfl,(store_rn [.bool (zneg k),.slice p_2 (zlen k) c_2] RK.out K1.out (by simp[noInt]) (by simp[plainV])),(store_below (l:=[.bool (zneg k),.slice p_2 (zlen k) c_2]) (i:=0) (by omega) HB2.out)⟩
end Go.Proofs.YtmigpoiajkihhaaGreatDoor
set_option maxRecDepth 100000
set_option maxHeartbeats 20000000
open Go.Lib (hid)
namespace Go.Proofs.YtmigpoiajkihhaaGreatDoor
open Go.RowKit Go.Gb
theorem cOverE (v1 v2:Value)(a b q r:Nat)(hq:a / b=q)(hr:a%b=r)(hb:b≠0)(hl:nlen a≤50000)(w:World)(h1:RN w v1 a)(h2:RN w v2 b) :
 Calls Tryz.prog 82 #[v1,v2] w fun e w'=>∃ p c p' c',e=.returned (.tuple #[.slice p (nlen q) c,.slice p' (nlen r) c'])∧RN w' (.slice p (nlen q) c) q∧RN w' (.slice p' (nlen r) c') r∧Below w.heap.size w w':=by
 subst hq hr;exact cOver v1 v2 a b hb hl w h1 h2
theorem rn_cell {w:World}{p:Option Addr}{n c g:Nat}(h:RN w (.slice p n c) g)(hg:(digs g).length=1):∃ b o,p=some ⟨b,o,none⟩∧n=1∧w.cell? ⟨b,o,none⟩=some (.int .u32 (g:Int)):=by
 rcases h with⟨e,h⟩|⟨b,o,c',e,h2,h3,h4,h5⟩
 · rw[h]at hg;cases hg
 · injection e with e1 e2 e3
   refine⟨b,o,e1,by omega,?_⟩
   have h6:=h5 0 (by omega)
   have hv:=wval_digs g
   have hd:digs g=[(digs g).getD 0 0]:=by
    match hk:digs g,hg with
    | [x],_=>rfl
   rw[hd]at hv
   have e0:(digs g).getD 0 0=g:=by simpa [wval] using hv
   rw[e0]at h6
   exact h6
theorem lowest_one (z:Int)(d:Nat)(hz:zlen z≤50000)(hd:nlen d≤50000)(p1:Option Addr)(c1:Nat)(s1:Option Addr)(d1:Nat)(hg:Nat.gcd z.natAbs d=1)(w:World)(r1:RN w (.slice p1 (zlen z) c1) z.natAbs)(t1:RN w (.slice s1 (nlen d) d1) d) :
 Calls Tryz.prog 40 #[.agg #[.bool (zneg z),.slice p1 (zlen z) c1],.slice s1 (nlen d) d1] w fun e w'=>∃ p c s e1,e=.returned (.agg #[.bool (zneg z),.slice p (zlen z) c,.slice s (nlen d) e1])∧RN w' (.slice p (zlen z) c) z.natAbs∧RN w' (.slice s (nlen d) e1) d∧Below w.heap.size w w':=by
 have C1:=hid (show ∀ v1 v2 W,RN W v1 z.natAbs→RN W v2 d→Calls Tryz.prog 81 #[v1,v2] W fun e w'=>∃ b o c,e=.returned (.slice (some ⟨b,o,none⟩) 1 c)∧w'.cell? ⟨b,o,none⟩=some (.int .u32 1)∧Below W.heap.size W w' from fun v1 v2 W h1 h2=>by
  refine(cCommon v1 v2 z.natAbs d 1 hg hz hd W h1 h2).mono ?_
  rintro e w' ⟨p,c,rfl,hr,hb⟩
  obtain⟨b,o,rfl,_,h⟩:=rn_cell hr nlen_one
  rw[nlen_one]
  exact⟨b,o,c,rfl,h,hb⟩)
 clear hg hz hd
 have R1:=hid r1
 have T1:=hid t1
 clear r1 t1
 go_enter Tryz.func40,Tryz.ntmps40
 go_upto_region 1 with fail
 refine wp_boxes w [(#[.bool (zneg z),.slice p1 (zlen z) c1],50),(#[.bool false,.slice none 0 0,.slice none 0 0],55)] rfl ?_
 rintro W0 ⟨k1,k2,hb⟩
 have HB0:=hid (show Below w.heap.size w W0 from hb)
 have R1:=hid (R1.out.below HB0.out)
 have T1:=hid (T1.out.below HB0.out)
 have K1:=hid k1
 have K2:=hid k2
 clear k1 k2 hb
 have dK11:=K1.out.cell (i:=1) rfl
 go_wp2_with fail
 with_reducible refine(C1.out _ _ _ R1.out T1.out).mono ?_
 rintro e W1 ⟨b_1,o_1,c_1,rfl,r1_0,hb⟩
 clear dK11
 have K1:=hid (K1.out.below hb)
 have K2:=hid (K2.out.below hb)
 have R1:=hid (R1.out.below hb)
 have T1:=hid (T1.out.below hb)
 have HB1:=hbt HB0 hb
 have XC:=hid r1_0
 clear hb r1_0
 have dxc:=XC.out
 have dK10:=K1.out.cell (i:=0) rfl
 have dK11:=K1.out.cell (i:=1) rfl
 have dK20:=K2.out.cell (i:=0) rfl
 have dK21:=K2.out.cell (i:=1) rfl
 have dK22:=K2.out.cell (i:=2) rfl
 have fK20:=K2.out.frozen (i:=0)
 have fK21:=K2.out.frozen (i:=1)
 have fK22:=K2.out.frozen (i:=2)
 go_wp2
 exact bodyPost_ret (v:=.agg #[.bool (zneg z),.slice p1 (zlen z) c1,.slice s1 (nlen d) d1]) (by simp[results,Tryz.results40,go_sem,dK20,dK21,dK22]) rfl ⟨_,_,_,_,rfl,(store_rn [.bool (zneg z),.slice p1 (zlen z) c1,.slice s1 (nlen d) d1] R1.out K2.out (by simp[noInt]) (by simp[plainV])),(store_rn [.bool (zneg z),.slice p1 (zlen z) c1,.slice s1 (nlen d) d1] T1.out K2.out (by simp[noInt]) (by simp[plainV])),(store_below (l:=[.bool (zneg z),.slice p1 (zlen z) c1,.slice s1 (nlen d) d1]) (i:=0) (by omega) HB1.out)⟩
theorem lowest_word (z:Int)(d:Nat)(hz:zlen z≤50000)(hd:nlen d≤50000)(p1:Option Addr)(c1:Nat)(s1:Option Addr)(d1:Nat)(g a a1 b b1:Nat)(y:Int)(hg:Nat.gcd z.natAbs d=g)(g0:g≠0)(g1:g≠1)(gl:nlen g=1)(ha:z.natAbs / g=a)(ha1:z.natAbs%g=a1)(hb:d / g=b)(hb1:d%g=b1)(hy:y=if zneg z then -(a:Int) else (a:Int))(w:World)(r1:RN w (.slice p1 (zlen z) c1) z.natAbs)(t1:RN w (.slice s1 (nlen d) d1) d) :
 Calls Tryz.prog 40 #[.agg #[.bool (zneg z),.slice p1 (zlen z) c1],.slice s1 (nlen d) d1] w fun e w'=>∃ p c s e1,e=.returned (.agg #[.bool (zneg y),.slice p (zlen y) c,.slice s (nlen b) e1])∧RN w' (.slice p (zlen y) c) y.natAbs∧RN w' (.slice s (nlen b) e1) b∧Below w.heap.size w w':=by
 have C1:=hid (show ∀ v1 v2 W,RN W v1 z.natAbs→RN W v2 d→Calls Tryz.prog 81 #[v1,v2] W fun e w'=>∃ b o c,e=.returned (.slice (some ⟨b,o,none⟩) 1 c)∧w'.cell? ⟨b,o,none⟩=some (.int .u32 (g:Int))∧RN w' (.slice (some ⟨b,o,none⟩) 1 c) g∧Below W.heap.size W w' from fun v1 v2 W h1 h2=>by
  refine(cCommon v1 v2 z.natAbs d g hg hz hd W h1 h2).mono ?_
  rintro e w' ⟨p,c,rfl,hr,hb⟩
  obtain⟨b,o,rfl,_,h⟩:=rn_cell hr gl
  rw[gl]at hr ⊢
  exact⟨b,o,c,rfl,h,hr,hb⟩)
 have C2:=hid (fun v1 v2 W h1 h2=>cOverE v1 v2 z.natAbs g a a1 ha ha1 g0 hz W h1 h2)
 have C3:=hid (fun v1 v2 W h1 h2=>cOverE v1 v2 d g b b1 hb hb1 g0 hd W h1 h2)
 have C4:=hid (fun v W h=>cMake (zneg z) v a y hy (by rw[← ha];exact Nat.le_trans (nlen_mono (Nat.div_le_self _ _)) (Nat.le_trans hz (by decide))) W h)
 have g1':((g:Int)==1)=false:=by rw[beq_eq_false_iff_ne];omega
 have g2':¬ (g:Int)=1:=by omega
 have g3':¬ g=1:=g1
 clear gl g1 hg hz hd g0 ha ha1 hb hb1 hy
 have R1:=hid r1
 have T1:=hid t1
 clear r1 t1
 go_enter Tryz.func40,Tryz.ntmps40
 go_upto_region 1 with fail
 refine wp_boxes w [(#[.bool (zneg z),.slice p1 (zlen z) c1],50),(#[.bool false,.slice none 0 0,.slice none 0 0],55)] rfl ?_
 rintro W0 ⟨k1,k2,hb⟩
 have HB0:=hid (show Below w.heap.size w W0 from hb)
 have R1:=hid (R1.out.below HB0.out)
 have T1:=hid (T1.out.below HB0.out)
 have K1:=hid k1
 have K2:=hid k2
 clear k1 k2 hb
 have dK11:=K1.out.cell (i:=1) rfl
 go_wp2_with fail
 with_reducible refine(C1.out _ _ _ R1.out T1.out).mono ?_
 rintro e W1 ⟨b_1,o_1,c_1,rfl,r1_0,r1_1,hb⟩
 clear dK11
 have K1:=hid (K1.out.below hb)
 have K2:=hid (K2.out.below hb)
 have R1:=hid (R1.out.below hb)
 have T1:=hid (T1.out.below hb)
 have HB1:=hbt HB0 hb
 have XC:=hid r1_0
 have RG:=hid r1_1
 clear hb r1_0 r1_1
 have dxc:=XC.out
 have dK11:=K1.out.cell (i:=1) rfl
 go_wp2_with fail
 with_reducible refine(C2.out _ _ _ R1.out RG.out).mono ?_
 rintro e W2 ⟨pa_2,ca_2,pb_2,cb_2,rfl,r2_0,r2_1,hb⟩
 clear dK11
 have K1:=hid (K1.out.below hb)
 have K2:=hid (K2.out.below hb)
 have T1:=hid (T1.out.below hb)
 have RG:=hid (RG.out.below hb)
 have HB2:=hbt HB1 hb
 have RA:=hid r2_0
 have RA1:=hid r2_1
 clear hb r2_0 r2_1
 go_wp2_with fail
 with_reducible refine(C3.out _ _ _ T1.out RG.out).mono ?_
 rintro e W3 ⟨pa_3,ca_3,pb_3,cb_3,rfl,r3_0,r3_1,hb⟩
 have K1:=hid (K1.out.below hb)
 have K2:=hid (K2.out.below hb)
 have RA:=hid (RA.out.below hb)
 have HB3:=hbt HB2 hb
 have RB:=hid r3_0
 have RB1:=hid r3_1
 clear hb r3_0 r3_1
 have dK10:=K1.out.cell (i:=0) rfl
 go_wp2_with fail
 with_reducible refine(C4.out _ _ RA.out).mono ?_
 rintro e W4 ⟨p_4,c_4,rfl,r4_0,hb⟩
 clear dK10
 have K2:=hid (K2.out.below hb)
 have RB:=hid (RB.out.below hb)
 have HB4:=hbt HB3 hb
 have RY:=hid r4_0
 clear hb r4_0
 have dK20:=K2.out.cell (i:=0) rfl
 have dK21:=K2.out.cell (i:=1) rfl
 have dK22:=K2.out.cell (i:=2) rfl
 have fK20:=K2.out.frozen (i:=0)
 have fK21:=K2.out.frozen (i:=1)
 have fK22:=K2.out.frozen (i:=2)
 go_wp2
 exact bodyPost_ret (v:=.agg #[.bool (zneg y),.slice p_4 (zlen y) c_4,.slice pa_3 (nlen b) ca_3]) (by simp[results,Tryz.results40,go_sem,dK20,dK21,dK22]) rfl ⟨_,_,_,_,rfl,(store_rn [.bool (zneg y),.slice p_4 (zlen y) c_4,.slice pa_3 (nlen b) ca_3] RY.out K2.out (by simp[noInt]) (by simp[plainV])),(store_rn [.bool (zneg y),.slice p_4 (zlen y) c_4,.slice pa_3 (nlen b) ca_3] RB.out K2.out (by simp[noInt]) (by simp[plainV])),(store_below (l:=[.bool (zneg y),.slice p_4 (zlen y) c_4,.slice pa_3 (nlen b) ca_3]) (i:=0) (by omega) HB4.out)⟩
theorem lowest_long (z:Int)(d:Nat)(hz:zlen z≤50000)(hd:nlen d≤50000)(p1:Option Addr)(c1:Nat)(s1:Option Addr)(d1:Nat)(g a a1 b b1:Nat)(y:Int)(hg:Nat.gcd z.natAbs d=g)(g0:g≠0)(gl:nlen g≠1)(ha:z.natAbs / g=a)(ha1:z.natAbs%g=a1)(hb:d / g=b)(hb1:d%g=b1)(hy:y=if zneg z then -(a:Int) else (a:Int))(w:World)(r1:RN w (.slice p1 (zlen z) c1) z.natAbs)(t1:RN w (.slice s1 (nlen d) d1) d) :
 Calls Tryz.prog 40 #[.agg #[.bool (zneg z),.slice p1 (zlen z) c1],.slice s1 (nlen d) d1] w fun e w'=>∃ p c s e1,e=.returned (.agg #[.bool (zneg y),.slice p (zlen y) c,.slice s (nlen b) e1])∧RN w' (.slice p (zlen y) c) y.natAbs∧RN w' (.slice s (nlen b) e1) b∧Below w.heap.size w w':=by
 have C1:=hid (fun v1 v2 W h1 h2=>cCommon v1 v2 z.natAbs d g hg hz hd W h1 h2)
 have C2:=hid (fun v1 v2 W h1 h2=>cOverE v1 v2 z.natAbs g a a1 ha ha1 g0 hz W h1 h2)
 have C3:=hid (fun v1 v2 W h1 h2=>cOverE v1 v2 d g b b1 hb hb1 g0 hd W h1 h2)
 have C4:=hid (fun v W h=>cMake (zneg z) v a y hy (by rw[← ha];exact Nat.le_trans (nlen_mono (Nat.div_le_self _ _)) (Nat.le_trans hz (by decide))) W h)
 have g1':((nlen g:Int)==1)=false:=by rw[beq_eq_false_iff_ne];omega
 have g2':¬ (nlen g:Int)=1:=by omega
 have g3':¬ nlen g=1:=gl
 clear gl hg hz hd g0 ha ha1 hb hb1 hy
 have R1:=hid r1
 have T1:=hid t1
 clear r1 t1
 go_enter Tryz.func40,Tryz.ntmps40
 go_upto_region 1 with fail
 refine wp_boxes w [(#[.bool (zneg z),.slice p1 (zlen z) c1],50),(#[.bool false,.slice none 0 0,.slice none 0 0],55)] rfl ?_
 rintro W0 ⟨k1,k2,hb⟩
 have HB0:=hid (show Below w.heap.size w W0 from hb)
 have R1:=hid (R1.out.below HB0.out)
 have T1:=hid (T1.out.below HB0.out)
 have K1:=hid k1
 have K2:=hid k2
 clear k1 k2 hb
 have dK11:=K1.out.cell (i:=1) rfl
 go_wp2_with fail
 with_reducible refine(C1.out _ _ _ R1.out T1.out).mono ?_
 rintro e W1 ⟨p_1,c_1,rfl,r1_0,hb⟩
 clear dK11
 have K1:=hid (K1.out.below hb)
 have K2:=hid (K2.out.below hb)
 have R1:=hid (R1.out.below hb)
 have T1:=hid (T1.out.below hb)
 have HB1:=hbt HB0 hb
 have RG:=hid r1_0
 clear hb r1_0
 have dK11:=K1.out.cell (i:=1) rfl
 go_wp2_with fail
 with_reducible refine(C2.out _ _ _ R1.out RG.out).mono ?_
 rintro e W2 ⟨pa_2,ca_2,pb_2,cb_2,rfl,r2_0,r2_1,hb⟩
 clear dK11
 have K1:=hid (K1.out.below hb)
 have K2:=hid (K2.out.below hb)
 have T1:=hid (T1.out.below hb)
 have RG:=hid (RG.out.below hb)
 have HB2:=hbt HB1 hb
 have RA:=hid r2_0
 have RA1:=hid r2_1
 clear hb r2_0 r2_1
 go_wp2_with fail
 with_reducible refine(C3.out _ _ _ T1.out RG.out).mono ?_
 rintro e W3 ⟨pa_3,ca_3,pb_3,cb_3,rfl,r3_0,r3_1,hb⟩
 have K1:=hid (K1.out.below hb)
 have K2:=hid (K2.out.below hb)
 have RA:=hid (RA.out.below hb)
 have HB3:=hbt HB2 hb
 have RB:=hid r3_0
 have RB1:=hid r3_1
 clear hb r3_0 r3_1
 have dK10:=K1.out.cell (i:=0) rfl
 go_wp2_with fail
 with_reducible refine(C4.out _ _ RA.out).mono ?_
 rintro e W4 ⟨p_4,c_4,rfl,r4_0,hb⟩
 clear dK10
 have K2:=hid (K2.out.below hb)
 have RB:=hid (RB.out.below hb)
 have HB4:=hbt HB3 hb
 have RY:=hid r4_0
 clear hb r4_0
 have dK20:=K2.out.cell (i:=0) rfl
 have dK21:=K2.out.cell (i:=1) rfl
 have dK22:=K2.out.cell (i:=2) rfl
 have fK20:=K2.out.frozen (i:=0)
 have fK21:=K2.out.frozen (i:=1)
 have fK22:=K2.out.frozen (i:=2)
 go_wp2
 exact bodyPost_ret (v:=.agg #[.bool (zneg y),.slice p_4 (zlen y) c_4,.slice pa_3 (nlen b) ca_3]) (by simp[results,Tryz.results40,go_sem,dK20,dK21,dK22]) rfl ⟨_,_,_,_,rfl,(store_rn [.bool (zneg y),.slice p_4 (zlen y) c_4,.slice pa_3 (nlen b) ca_3] RY.out K2.out (by simp[noInt]) (by simp[plainV])),(store_rn [.bool (zneg y),.slice p_4 (zlen y) c_4,.slice pa_3 (nlen b) ca_3] RB.out K2.out (by simp[noInt]) (by simp[plainV])),(store_below (l:=[.bool (zneg y),.slice p_4 (zlen y) c_4,.slice pa_3 (nlen b) ca_3]) (i:=0) (by omega) HB4.out)⟩
end Go.Proofs.YtmigpoiajkihhaaGreatDoor
