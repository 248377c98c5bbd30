/- texts -/
import Derived.Test.YtbcnefnbkdbobaaGreatDoorMz31q
open Go.Proofs.Tryz
set_option maxRecDepth 100000
set_option maxHeartbeats 20000000
open Go.Lib (hid)
namespace Go.Proofs.YtbcnefnbkdbobaaGreatDoor
open Go.RowKit Go.Gb
theorem rz {W W':World}{g:Nat}{o:Obj}(h:W.heap[g]? = some o)(hb:Below W.heap.size W W'):W'.heap[g]? = some o:=by
 rw[hb.block g (Array.getElem?_eq_some_iff.1 h).1];exact h
theorem heap_set {W:World}{g i:Nat}{b b':Bool}{q:Option Addr}{l c:Nat}{T:TypeId}{fz:Nat × Nat}(h:W.heap[g]? = some (.cells #[.bool b,.slice q l c] T fz))(hi:i=0):(W.setCell ⟨g,i,none⟩ (.bool b')).heap[g]? = some (.cells #[.bool b',.slice q l c] T fz):=by
 subst hi;simp only[World.setCell,Array.getElem?_modify,h];simp
theorem wW (ba bb ob r:Bool)(p1:Option Addr)(l1 c1:Nat)(p2:Option Addr)(l2 c2:Nat)(m n L:Nat)(w:World)
 (hO:∀ W,Below w.heap.size w W→Calls Tryz.prog 109 #[.agg #[.bool bb,.slice p2 l2 c2]] W fun e w'=>∃ p c,e=.returned (.agg #[.bool ob,.slice p l2 c])∧Rd .u32 w' (.slice p l2 c) (aa m)∧Below W.heap.size W w')
 (hQ:∀ W p c,Below w.heap.size w W→Rd .u32 W (.slice p l2 c) (aa m)→Calls Tryz.prog 108 #[.agg #[.bool ba,.slice p1 l1 c1],.agg #[.bool ob,.slice p l2 c]] W fun e w'=>∃ p' c',e=.returned (.agg #[.bool r,.slice p' L c'])∧Rd .u32 w' (.slice p' L c') (aa n)∧Below W.heap.size W w') :
 Calls Tryz.prog 82 #[.agg #[.bool ba,.slice p1 l1 c1],.agg #[.bool bb,.slice p2 l2 c2]] w fun e w'=>∃ v,e=.returned (.agg #[.bool r,v])∧Rd .u32 w' v (aa n)∧Below w.heap.size w w':=by
 have HO:=hid hO;have HQ:=hid hQ;have HW:=hid (((((Below.refl w.heap.size w).alloc (Nat.le_refl _) (.cells #[.bool ba,.slice p1 l1 c1] 51)).alloc (by simp) (.cells #[.bool bb,.slice p2 l2 c2] 51)).alloc (by simp;omega) (.cells #[.bool false,.slice none 0 0] 51)))
 have AH:=hid (show(((w.alloc (.cells #[.bool ba,.slice p1 l1 c1] 51)).alloc (.cells #[.bool bb,.slice p2 l2 c2] 51)).alloc (.cells #[.bool false,.slice none 0 0] 51)).heap[w.heap.size+1+1]? = some (.cells #[.bool false,.slice none 0 0] 51 (0,0)) by
  rw[show w.heap.size+1+1=((w.alloc (.cells #[.bool ba,.slice p1 l1 c1] 51)).alloc (.cells #[.bool bb,.slice p2 l2 c2] 51)).heap.size by simp];exact heap_alloc_new _ _)
 have A00:=hid (show(((w.alloc (.cells #[.bool ba,.slice p1 l1 c1] 51)).alloc (.cells #[.bool bb,.slice p2 l2 c2] 51)).alloc (.cells #[.bool false,.slice none 0 0] 51)).cell? ⟨w.heap.size,0,none⟩=some (.bool ba) by rw[eF (by simp;omega),eF (by simp),nV rfl];rfl);have A01:=hid (show(((w.alloc (.cells #[.bool ba,.slice p1 l1 c1] 51)).alloc (.cells #[.bool bb,.slice p2 l2 c2] 51)).alloc (.cells #[.bool false,.slice none 0 0] 51)).cell? ⟨w.heap.size,1,none⟩=some (.slice p1 l1 c1) by rw[eF (by simp;omega),eF (by simp),nV rfl];rfl);have A10:=hid (show(((w.alloc (.cells #[.bool ba,.slice p1 l1 c1] 51)).alloc (.cells #[.bool bb,.slice p2 l2 c2] 51)).alloc (.cells #[.bool false,.slice none 0 0] 51)).cell? ⟨w.heap.size+1,0,none⟩=some (.bool bb) by rw[eF (by simp),nV (by simp)];rfl);have A11:=hid (show(((w.alloc (.cells #[.bool ba,.slice p1 l1 c1] 51)).alloc (.cells #[.bool bb,.slice p2 l2 c2] 51)).alloc (.cells #[.bool false,.slice none 0 0] 51)).cell? ⟨w.heap.size+1,1,none⟩=some (.slice p2 l2 c2) by rw[eF (by simp),nV (by simp)];rfl);have A20:=hid (show(((w.alloc (.cells #[.bool ba,.slice p1 l1 c1] 51)).alloc (.cells #[.bool bb,.slice p2 l2 c2] 51)).alloc (.cells #[.bool false,.slice none 0 0] 51)).cell? ⟨w.heap.size+1+1,0,none⟩=some (.bool false) by rw[nV (by simp)];rfl);have A21:=hid (show(((w.alloc (.cells #[.bool ba,.slice p1 l1 c1] 51)).alloc (.cells #[.bool bb,.slice p2 l2 c2] 51)).alloc (.cells #[.bool false,.slice none 0 0] 51)).cell? ⟨w.heap.size+1+1,1,none⟩=some (.slice none 0 0) by rw[nV (by simp)];rfl);have F0:=hid (show(((w.alloc (.cells #[.bool ba,.slice p1 l1 c1] 51)).alloc (.cells #[.bool bb,.slice p2 l2 c2] 51)).alloc (.cells #[.bool false,.slice none 0 0] 51)).frozen? ⟨w.heap.size+1+1,0,none⟩=false by rw[z1b (by simp)]);have F1:=hid (show(((w.alloc (.cells #[.bool ba,.slice p1 l1 c1] 51)).alloc (.cells #[.bool bb,.slice p2 l2 c2] 51)).alloc (.cells #[.bool false,.slice none 0 0] 51)).frozen? ⟨w.heap.size+1+1,1,none⟩=false by rw[z1b (by simp)]);clear hO hQ;go_enter func82,ntmps82
 go_wp2
 go_region_held3 (fun w'=>w'.cell? ⟨w.heap.size,0,none⟩=some (.bool ba)∧w'.cell? ⟨w.heap.size,1,none⟩=some (.slice p1 l1 c1)∧w'.cell? ⟨w.heap.size+1,0,none⟩=some (.bool bb)∧w'.cell? ⟨w.heap.size+1,1,none⟩=some (.slice p2 l2 c2)) (first|((try go_split_ands);refine⟨?_,?_,?_,?_⟩<;>(first|(with_reducible assumption)|((repeat (first|rw[lZ]|rw[eF (by first|assumption|omega|(simp;done)|(simp;omega))]|rw[xB (by omega)]));first|(with_reducible assumption)|(simp;done))))|(go_keep;done))
  (first|(go_at_call 109;refine(HO.o _ ?bd).mono ?_;(case bd=>first|exact HW.o|exact HW.o.drew);rintro e w1 ⟨po,co,rfl,ro,hb1⟩;obtain⟨hc1,hf1⟩:=eU hb1;have hs1:=hb1.size;(try simp at hs1);have q10:w.heap.size<w1.heap.size:=(by omega);have q11:w.heap.size+1<w1.heap.size:=(by omega);have q12:w.heap.size+1+1<w1.heap.size:=(by omega);have s100:w1.cell? ⟨w.heap.size,0,none⟩=some (.bool ba):=(by rw[hc1 _ _ (by first|assumption|omega|(simp;done)|(simp;omega))];first|(with_reducible assumption)|exact A00.o);have s101:w1.cell? ⟨w.heap.size,1,none⟩=some (.slice p1 l1 c1):=(by rw[hc1 _ _ (by first|assumption|omega|(simp;done)|(simp;omega))];first|(with_reducible assumption)|exact A01.o);have s110:w1.cell? ⟨w.heap.size+1,0,none⟩=some (.bool bb):=(by rw[hc1 _ _ (by first|assumption|omega|(simp;done)|(simp;omega))];first|(with_reducible assumption)|exact A10.o);have s111:w1.cell? ⟨w.heap.size+1,1,none⟩=some (.slice p2 l2 c2):=(by rw[hc1 _ _ (by first|assumption|omega|(simp;done)|(simp;omega))];first|(with_reducible assumption)|exact A11.o);have s120:w1.cell? ⟨w.heap.size+1+1,0,none⟩=some (.bool false):=(by rw[hc1 _ _ (by first|assumption|omega|(simp;done)|(simp;omega))];first|(with_reducible assumption)|exact A20.o);have s121:w1.cell? ⟨w.heap.size+1+1,1,none⟩=some (.slice none 0 0):=(by rw[hc1 _ _ (by first|assumption|omega|(simp;done)|(simp;omega))];first|(with_reducible assumption)|exact A21.o);have f10:w1.frozen? ⟨w.heap.size+1+1,0,none⟩=false:=(by rw[hf1 _ _ (by first|assumption|omega|(simp;done)|(simp;omega))];first|(with_reducible assumption)|exact F0.o);have f11:w1.frozen? ⟨w.heap.size+1+1,1,none⟩=false:=(by rw[hf1 _ _ (by first|assumption|omega|(simp;done)|(simp;omega))];first|(with_reducible assumption)|exact F1.o);have u6:=hid (show Below w.heap.size w w1 from Below.trans HW.o (by first|exact hb1.mono (by first|omega|(simp;omega)|simp)|exact Below.trans (Below.drew (Below.refl _ _)) (hb1.mono (by first|omega|(simp;omega)|simp))));have RO:=hid ro;have hg1:=hid (show w1.heap[w.heap.size+1+1]? = some (.cells #[.bool false,.slice none 0 0] 51 (0,0)) from(by refine rz ?_ hb1;exact AH.o)))|(go_at_call 108;refine(HQ.o w1 po co u6.o RO.o).mono ?_;rintro e w2 ⟨pv,cv,rfl,rv,hb2⟩;obtain⟨hc2,hf2⟩:=eU hb2;have hs2:=hb2.size;(try simp at hs2);have q20:w.heap.size<w2.heap.size:=(by omega);have q21:w.heap.size+1<w2.heap.size:=(by omega);have q22:w.heap.size+1+1<w2.heap.size:=(by omega);have s200:w2.cell? ⟨w.heap.size,0,none⟩=some (.bool ba):=(by rw[hc2 _ _ (by first|assumption|omega|(simp;done)|(simp;omega))];first|(with_reducible assumption)|exact A00.o);have s201:w2.cell? ⟨w.heap.size,1,none⟩=some (.slice p1 l1 c1):=(by rw[hc2 _ _ (by first|assumption|omega|(simp;done)|(simp;omega))];first|(with_reducible assumption)|exact A01.o);have s210:w2.cell? ⟨w.heap.size+1,0,none⟩=some (.bool bb):=(by rw[hc2 _ _ (by first|assumption|omega|(simp;done)|(simp;omega))];first|(with_reducible assumption)|exact A10.o);have s211:w2.cell? ⟨w.heap.size+1,1,none⟩=some (.slice p2 l2 c2):=(by rw[hc2 _ _ (by first|assumption|omega|(simp;done)|(simp;omega))];first|(with_reducible assumption)|exact A11.o);have s220:w2.cell? ⟨w.heap.size+1+1,0,none⟩=some (.bool false):=(by rw[hc2 _ _ (by first|assumption|omega|(simp;done)|(simp;omega))];first|(with_reducible assumption)|exact A20.o);have s221:w2.cell? ⟨w.heap.size+1+1,1,none⟩=some (.slice none 0 0):=(by rw[hc2 _ _ (by first|assumption|omega|(simp;done)|(simp;omega))];first|(with_reducible assumption)|exact A21.o);have f20:w2.frozen? ⟨w.heap.size+1+1,0,none⟩=false:=(by rw[hf2 _ _ (by first|assumption|omega|(simp;done)|(simp;omega))];first|(with_reducible assumption)|exact F0.o);have f21:w2.frozen? ⟨w.heap.size+1+1,1,none⟩=false:=(by rw[hf2 _ _ (by first|assumption|omega|(simp;done)|(simp;omega))];first|(with_reducible assumption)|exact F1.o);have hg2:=hid (rz hg1.o hb2))|fail)
 all_goals
  go_wp2;have HB:Below w.heap.size w w2:=u6.o.trans (hb2.mono u6.o.size);refine bodyPost_ret (v:=.agg #[.bool r,.slice pv L cv]) (by simp[results,results82,go_sem,s220,s221]) rfl ⟨_,rfl,?_,?_⟩
  · exact uU (heap_set hg2.o rfl) (uU hg2.o rv 0 _) 1 _
  · exact(HB.setCell (p:=⟨w.heap.size+1+1,0,none⟩) (by show w.heap.size≤w.heap.size+1+1;omega) _).setCell (p:=⟨w.heap.size+1+1,1,none⟩) (by show w.heap.size≤w.heap.size+1+1;omega) _
theorem z2q (u1 u2:Value)(x y:Int)(hx:(aa x.natAbs).length≤50000)(hy:(aa y.natAbs).length≤50000)(w:World)(h1:Rz w u1 x)(h2:Rz w u2 y) :
 Calls Tryz.prog 82 #[u1,u2] w fun e w'=>∃ u,e=.returned u∧Rz w' u (x-y)∧Below w.heap.size w w':=by
 obtain⟨p1,c1,rfl,r1⟩:=iW h1;obtain⟨p2,c2,rfl,r2⟩:=iW h2;refine(wW (decide (x<0)) (decide (y<0)) (decide (-y<0)) (decide (x-y<0)) p1 _ c1 p2 _ c2 (-y).natAbs (x-y).natAbs (aa (x-y).natAbs).length w ?_ ?_).mono ?_
 · intro W hW
   have h:=xn _ y (by omega) W (Rz.below ⟨_,rfl,r2⟩ hW);exact oP rfl (by rw[Int.natAbs_neg]) h
 · intro W p c hW hr
   have h:=z2V (.agg #[.bool (decide (x<0)),.slice p1 (aa x.natAbs).length c1]) (.agg #[.bool (decide (-y<0)),.slice p (aa y.natAbs).length c]) x (-y) hx (by rw[Int.natAbs_neg];exact hy) W (Rz.below ⟨_,rfl,r1⟩ hW) ⟨_,rfl,hr⟩;rw[← Int.sub_eq_add_neg]at h;exact oP rfl rfl h
 · rintro e w' ⟨v,e1,e2,e3⟩
   exact⟨_,e1,⟨_,rfl,e2⟩,e3⟩
theorem z14 (ba bb r:Bool)(p1:Option Addr)(l1 c1:Nat)(p2:Option Addr)(l2 c2:Nat)(L:Nat)(s:Int)(w:World)
 (hs:s=if r=true then -1 else if 0<L then 1 else 0)
 (hM:∀ W,Below w.heap.size w W→Calls Tryz.prog 82 #[.agg #[.bool ba,.slice p1 l1 c1],.agg #[.bool bb,.slice p2 l2 c2]] W fun e w'=>∃ p c,e=.returned (.agg #[.bool r,.slice p L c])∧Below W.heap.size W w') :
 CR 64 #[.agg #[.bool ba,.slice p1 l1 c1],.agg #[.bool bb,.slice p2 l2 c2]] w (.int .i64 s):=by
 have HM:=Lib.hid hM;have HS:=Lib.hid (fun W p c=>nz r p L c s hs W);have HW:=Lib.hid (((Below.refl w.heap.size w).alloc (Nat.le_refl _) (.cells #[.bool ba,.slice p1 l1 c1] 51)).alloc (by simp) (.cells #[.bool bb,.slice p2 l2 c2] 51));clear hM hs;go_enter func64,ntmps64
 go_wp2_with fail
 refine(HM.o _ HW.o).mono ?_;rintro e w1 ⟨p,c,rfl,hb1⟩;have u6:=Lib.hid (HW.o.trans (hb1.mono HW.o.size));clear hb1;go_wp2_with fail
 refine(HS.o w1 p c).mono ?_;rintro e w2 ⟨rfl,hb⟩;have wo:=Lib.hid (u6.o.trans (hb.mono u6.o.size));clear hb;go_wp2;go_ret
 exact⟨rfl,wo.o⟩
theorem zCmp (u1 u2:Value)(x y:Int)(hx:(aa x.natAbs).length≤50000)(hy:(aa y.natAbs).length≤50000)(w:World)(h1:Rz w u1 x)(h2:Rz w u2 y) :
 CR 64 #[u1,u2] w (.int .i64 (cmpZ x y)):=by
 obtain⟨p1,c1,rfl,r1⟩:=iW h1;obtain⟨p2,c2,rfl,r2⟩:=iW h2;refine z14 _ _ (decide (x-y<0)) p1 _ c1 p2 _ c2 (aa (x-y).natAbs).length (cmpZ x y) w ?_ ?_
 · have hl:=pG (x-y).natAbs
   rcases Int.lt_trichotomy x y with h|h|h
   · rw[mY h,if_pos (decide_eq_true (by omega))]
   · subst h
     rw[q9,Int.sub_self];simp[aM]
   · rw[mZ h,if_neg (by rw[decide_eq_false (by omega)];simp),if_pos]
     exact List.length_pos_iff.2 (by rw[bE (by omega)];simp)
 · intro W hW
   exact(oP rfl rfl (z2q _ _ x y hx hy W (Rz.below ⟨_,rfl,r1⟩ hW) (Rz.below ⟨_,rfl,r2⟩ hW))).mono fun e w' ⟨p,c,e1,_,e3⟩=>⟨p,c,e1,e3⟩
theorem sV (z s:Int)(hs:z.sign=s)(p:Option Addr)(c:Nat)(w:World)(h:RN w (.slice p (ah z) c) z.natAbs) :
 CR 60 #[.agg #[.bool (ay z),.slice p (ah z) c]] w (.int .i64 s):=by subst hs;exact z1v _ z w (Rz.mk h)
end Go.Proofs.YtbcnefnbkdbobaaGreatDoor
open Go.Lib (hid)
namespace Go.Proofs.YtbcnefnbkdbobaaGreatDoor
open Go.RowKit Go.Gb
theorem z2B (k:Int)(n:Nat)(hk:(n:Int)=k)(h0:0≤k)(h1:k≤1000000)(w:World) :
 CZ 77 #[.int .i64 k] w k:=by
 have hl:aj n≤1000000:=Nat.le_trans (qV (show n≤1000000 by omega)) (by decide +kernel);have C1:=hid (fun W=>qf k n hk (by omega) W);have C2:=hid (fun v W h=>wT false v n k (by rw[if_neg (by simp)];exact hk.symm) hl W h);have d0:decide (k<0)=false:=decide_eq_false (by omega);have e0:¬ k<0:=by omega
 clear hl hk;go_enter func77,ntmps77
 go_upto_region 1 with fail
 refine aH w [(#[.bool false,.slice none 0 0],51)] rfl ?_;rintro W0 ⟨k1,hb⟩;have rM:=hid (show Below w.heap.size w W0 from hb);have K1:=hid k1;clear k1 hb;go_wp2_with fail
 with_reducible refine(C1.o _).mono ?_
 rintro e W1 ⟨p_1,c_1,rfl,u09,hb⟩;have K1:=hid (K1.o.below hb);have u6:=hbt rM hb;have RN1:=hid u09;clear hb u09;go_wp2_with fail
 with_reducible refine(C2.o _ _ RN1.o).mono ?_
 rintro e W2 ⟨p_2,c_2,rfl,u0a,hb⟩;have K1:=hid (K1.o.below hb);have wo:=hbt u6 hb;have RK:=hid u0a;clear hb u0a;obtain ⟨rV,pq⟩:=aV K1.o rfl rfl;obtain ⟨kV,gy⟩:=eT K1.o;go_wp2;exact bodyPost_ret (v:=.agg #[.bool (ay k),.slice p_2 (ah k) c_2]) (by simp[results,results77,go_sem,rV,pq]) rfl ⟨_,_,rfl,(bS [.bool (ay k),.slice p_2 (ah k) c_2] RK.o K1.o (by simp[dG]) (by simp[bY])),(bC (l:=[.bool (ay k),.slice p_2 (ah k) c_2]) (i:=0) (by omega) wo.o)⟩
structure QS where
 b:Bool
 a:Option Addr
 n:Nat
 c:Nat
 e:Option Addr
 m:Nat
 d:Nat
def FQ (W:World) (q:QS) (x:Rat):Prop:=q.b=ay x.num∧q.n=ah x.num∧q.m=aj x.den∧RN W (.slice q.a q.n q.c) x.num.natAbs∧RN W (.slice q.e q.m q.d) x.den
theorem FQ.below {W W':World}{q:QS}{x:Rat}(h:FQ W q x)(hb:Below W.heap.size W W'):FQ W' q x:=⟨h.1,h.2.1,h.2.2.1,h.2.2.2.1.below hb,h.2.2.2.2.below hb⟩
theorem jm {q:QS}{x:Rat}{g:Nat}{T:TypeId}(l:List Value)(i:Nat){w:World}{cs:Array Value}(h:FQ w q x)(hg:SBk w g cs T)(hn:dG cs=true)(hl:l.all bY=true):FQ (storeAll w g i l) q x:=⟨h.1,h.2.1,h.2.2.1,lL l i h.2.2.2.1 hg hn hl,lL l i h.2.2.2.2 hg hn hl⟩
abbrev QS.l (q:QS):List Value:=[.bool q.b,.slice q.a q.n q.c,.slice q.e q.m q.d]
abbrev QS.v (q:QS):Value:=.agg #[.bool q.b,.slice q.a q.n q.c,.slice q.e q.m q.d]
abbrev RQ (W:World) (x:Rat):Ending→World→Prop:=fun e w'=>∃ q:QS,e=.returned (.agg #[.bool q.b,.slice q.a q.n q.c,.slice q.e q.m q.d])∧FQ w' q x∧Below W.heap.size W w'
abbrev RQb (W:World) (x:Rat) (b:Bool):Ending→World→Prop:=fun e w'=>∃ q:QS,e=.returned (.tuple #[.agg #[.bool q.b,.slice q.a q.n q.c,.slice q.e q.m q.d],.bool b])∧FQ w' q x∧Below W.heap.size W w'
abbrev RP (W:World) (v:Value):Ending→World→Prop:=fun e w'=>e=.returned v∧Below W.heap.size W w'
abbrev KP1 (f:Nat) (x0:Rat) (v:Value):Prop:=∀ (q0:QS) (W:World),FQ W q0 x0→Calls Tryz.prog f #[.agg #[.bool q0.b,.slice q0.a q0.n q0.c,.slice q0.e q0.m q0.d]] W (RP W v)
abbrev KP2 (f:Nat) (x0 x1:Rat) (v:Value):Prop:=∀ (q0 q1:QS) (W:World),FQ W q0 x0→FQ W q1 x1→Calls Tryz.prog f #[.agg #[.bool q0.b,.slice q0.a q0.n q0.c,.slice q0.e q0.m q0.d],.agg #[.bool q1.b,.slice q1.a q1.n q1.c,.slice q1.e q1.m q1.d]] W (RP W v)
abbrev KS (f:Nat) (v0:Value) (z:Rat):Prop:=∀ (W:World),Calls Tryz.prog f #[v0] W (RQ W z)
abbrev KSb (f:Nat) (v0:Value) (z:Rat) (b:Bool):Prop:=∀ (W:World),Calls Tryz.prog f #[v0] W (RQb W z b)
abbrev KPs (f:Nat) (v0 v:Value):Prop:=∀ W:World,Calls Tryz.prog f #[v0] W (RP W v)
section
variable {ops:Array Oper} {m:Nat} {sl:Nat→Nat} {L:List Rel} {a0:Act} {P:World→Prop} {u0m:Array Bool} {a:Act} {w:World}
end
theorem cells3 {w:World}{g:Nat}{T:TypeId}{x0 x1 x2:Value}(h:SBk w g #[x0,x1,x2] T):w.cell? ⟨g,0,none⟩=some x0∧w.cell? ⟨g,1,none⟩=some x1∧w.cell? ⟨g,2,none⟩=some x2:=⟨h.cell (i:=0) rfl,h.cell (i:=1) rfl,h.cell (i:=2) rfl⟩
instance {W W':World}{q:QS}{x:Rat}:Gr (FQ W q x) W W' (FQ W' q x):=⟨fun h k=>k.below h⟩
end Go.Proofs.YtbcnefnbkdbobaaGreatDoor
open Go.Lib (hid)
namespace Go.Proofs.YtbcnefnbkdbobaaGreatDoor
open Go.RowKit Go.Gb
theorem z0I (a0 x0 y0:ByteArray)(z:Int)(n:Nat)  (w:World)(h1:CQ 52 #[.string a0] (.tuple #[.string x0,.string y0,.bool false]))(h2:CQ 53 #[.string x0] (.bool true))(h3:CQ 54 #[.string y0] (.bool true))(h4:∀ W,CZ 56 #[.string x0] W z)(h5:∀ W,CN 57 #[.string y0] W n)  :
 Calls Tryz.prog 35 #[.string a0] w fun e w'=>∃ p c s d,e=.returned (.tuple #[.agg #[.bool (ay z),.slice p (ah z) c,.slice s (aj n) d],.bool true])∧RN w' (.slice p (ah z) c) z.natAbs∧RN w' (.slice s (aj n) d) n∧Below w.heap.size w w':=by
 obtain ⟨C1,C2,C3,C4,C5⟩:=bA h1 h2 h3 h4 h5;clear h1 h2 h3 h4 h5;go_enter func35,ntmps35
 go_upto_region 1 with fail
 refine aH w [(#[.bool false,.slice none 0 0,.slice none 0 0],53)] rfl ?_;rintro W0 ⟨k1,hb⟩;have rM:=hid (show Below w.heap.size w W0 from hb);have K1:=hid k1;clear k1 hb;go_wp2_with fail
 with_reducible refine(C1.o _).mono ?_
 rintro e W1 ⟨rfl,hb⟩;have K1:=hid (K1.o.below hb);have u6:=hbt rM hb;clear hb;go_wp2_with fail
 with_reducible refine(C2.o _).mono ?_
 rintro e W2 ⟨rfl,hb⟩;have K1:=hid (K1.o.below hb);have wo:=hbt u6 hb;clear hb;go_wp2_with fail
 with_reducible refine(C3.o _).mono ?_
 rintro e W3 ⟨rfl,hb⟩;have K1:=hid (K1.o.below hb);have mf:=hbt wo hb;clear hb;go_wp2_with fail
 with_reducible refine(C4.o _).mono ?_
 rintro e W4 ⟨w9,wm,rfl,wu,hb⟩;have K1:=hid (K1.o.below hb);have l5:=hbt mf hb;have RZ:=hid wu;clear hb wu;go_wp2_with fail
 with_reducible refine(C5.o _).mono ?_
 rintro e W5 ⟨ww,sw,rfl,oM,hb⟩;obtain ⟨K1,RZ⟩:=bG hb K1 RZ;have oV:=hbt l5 hb;have RM:=hid oM;clear hb oM;go_upto_region 5 with fail
 refine aH W5 [(#[.bool (ay z),.slice w9 (ah z) wm,.slice ww (aj n) sw],53)] rfl ?_;have L1:=K1.o.lt;have L2:=oV.o.size;rintro W6 ⟨k2,hb⟩;have hb:Below W5.heap.size W5 W6:=hb;obtain ⟨K1,RZ,RM⟩:=df hb K1 RZ RM;have lv:=hbt oV hb;have K2:=hid k2;clear k2 hb;obtain ⟨kz,ol,r9⟩:=bT K2.o rfl rfl rfl;obtain ⟨rV,pq,mi⟩:=bT K1.o rfl rfl rfl;obtain ⟨kV,gy,ed⟩:=fA K1.o;go_wp2;exact bodyPost_ret (v:=.tuple #[.agg #[.bool (ay z),.slice w9 (ah z) wm,.slice ww (aj n) sw],.bool true]) (by simp[results,results35,go_sem,rV,pq,mi]) rfl ⟨_,_,_,_,rfl,(bS [.bool (ay z),.slice w9 (ah z) wm,.slice ww (aj n) sw] RZ.o K1.o (by simp[dG]) (by simp[bY])),(bS [.bool (ay z),.slice w9 (ah z) wm,.slice ww (aj n) sw] RM.o K1.o (by simp[dG]) (by simp[bY])),(bC (l:=[.bool (ay z),.slice w9 (ah z) wm,.slice ww (aj n) sw]) (i:=0) (by omega) lv.o)⟩
theorem rE (a0 x0 y0:ByteArray)(zz:Int)(dz:Nat)(sl:Bool)  (w:World)(h1:CQ 52 #[.string a0] (.tuple #[.string x0,.string y0,.bool sl]))(h2:CQ 53 #[.string x0] (.bool false))(h11:∀ W,CF 55 #[.int .i64 0] W zz dz)  :
 Calls Tryz.prog 35 #[.string a0] w fun e w'=>∃ p c s d,e=.returned (.tuple #[.agg #[.bool (ay zz),.slice p (ah zz) c,.slice s (aj dz) d],.bool false])∧RN w' (.slice p (ah zz) c) zz.natAbs∧RN w' (.slice s (aj dz) d) dz∧Below w.heap.size w w':=by
 obtain ⟨C1,C2,C11⟩:=av h1 h2 h11;clear h1 h2 h11;go_enter func35,ntmps35
 go_upto_region 1 with fail
 refine aH w [(#[.bool false,.slice none 0 0,.slice none 0 0],53)] rfl ?_;rintro W0 ⟨k1,hb⟩;have rM:=hid (show Below w.heap.size w W0 from hb);have K1:=hid k1;clear k1 hb;go_wp2_with fail
 with_reducible refine(C1.o _).mono ?_
 rintro e W1 ⟨rfl,hb⟩;have K1:=hid (K1.o.below hb);have u6:=hbt rM hb;clear hb;go_wp2_with fail
 with_reducible refine(C2.o _).mono ?_
 rintro e W2 ⟨rfl,hb⟩;have K1:=hid (K1.o.below hb);have wo:=hbt u6 hb;clear hb;go_wp2_with fail
 with_reducible refine(C11.o _).mono ?_
 rintro e W3 ⟨dY,cO,bg,bn,rfl,u0b,u0c,hb⟩;have K1:=hid (K1.o.below hb);have mf:=hbt wo hb;have RQ:=hid u0b;have TQ:=hid u0c;clear hb u0b u0c;obtain ⟨rV,pq,mi⟩:=bT K1.o rfl rfl rfl;obtain ⟨kV,gy,ed⟩:=fA K1.o;go_wp2;exact bodyPost_ret (v:=.tuple #[.agg #[.bool (ay zz),.slice dY (ah zz) cO,.slice bg (aj dz) bn],.bool false]) (by simp[results,results35,go_sem,rV,pq,mi]) rfl ⟨_,_,_,_,rfl,(bS [.bool (ay zz),.slice dY (ah zz) cO,.slice bg (aj dz) bn] RQ.o K1.o (by simp[dG]) (by simp[bY])),(bS [.bool (ay zz),.slice dY (ah zz) cO,.slice bg (aj dz) bn] TQ.o K1.o (by simp[dG]) (by simp[bY])),(bC (l:=[.bool (ay zz),.slice dY (ah zz) cO,.slice bg (aj dz) bn]) (i:=0) (by omega) mf.o)⟩
theorem zf (a0 x0 y0:ByteArray)(zz:Int)(dz:Nat)(sl:Bool)  (w:World)(h1:CQ 52 #[.string a0] (.tuple #[.string x0,.string y0,.bool sl]))(h2:CQ 53 #[.string x0] (.bool true))(h3:CQ 54 #[.string y0] (.bool false))(h11:∀ W,CF 55 #[.int .i64 0] W zz dz)  :
 Calls Tryz.prog 35 #[.string a0] w fun e w'=>∃ p c s d,e=.returned (.tuple #[.agg #[.bool (ay zz),.slice p (ah zz) c,.slice s (aj dz) d],.bool false])∧RN w' (.slice p (ah zz) c) zz.natAbs∧RN w' (.slice s (aj dz) d) dz∧Below w.heap.size w w':=by
 obtain ⟨C1,C2,C3,C11⟩:=aP h1 h2 h3 h11;clear h1 h2 h3 h11;go_enter func35,ntmps35
 go_upto_region 1 with fail
 refine aH w [(#[.bool false,.slice none 0 0,.slice none 0 0],53)] rfl ?_;rintro W0 ⟨k1,hb⟩;have rM:=hid (show Below w.heap.size w W0 from hb);have K1:=hid k1;clear k1 hb;go_wp2_with fail
 with_reducible refine(C1.o _).mono ?_
 rintro e W1 ⟨rfl,hb⟩;have K1:=hid (K1.o.below hb);have u6:=hbt rM hb;clear hb;go_wp2_with fail
 with_reducible refine(C2.o _).mono ?_
 rintro e W2 ⟨rfl,hb⟩;have K1:=hid (K1.o.below hb);have wo:=hbt u6 hb;clear hb;go_wp2_with fail
 with_reducible refine(C3.o _).mono ?_
 rintro e W3 ⟨rfl,hb⟩;have K1:=hid (K1.o.below hb);have mf:=hbt wo hb;clear hb;go_wp2_with fail
 with_reducible refine(C11.o _).mono ?_
 rintro e W4 ⟨w9,wm,bq,bu,rfl,wu,u0d,hb⟩;have K1:=hid (K1.o.below hb);have l5:=hbt mf hb;have RQ:=hid wu;have TQ:=hid u0d;clear hb wu u0d;obtain ⟨rV,pq,mi⟩:=bT K1.o rfl rfl rfl;obtain ⟨kV,gy,ed⟩:=fA K1.o;go_wp2;exact bodyPost_ret (v:=.tuple #[.agg #[.bool (ay zz),.slice w9 (ah zz) wm,.slice bq (aj dz) bu],.bool false]) (by simp[results,results35,go_sem,rV,pq,mi]) rfl ⟨_,_,_,_,rfl,(bS [.bool (ay zz),.slice w9 (ah zz) wm,.slice bq (aj dz) bu] RQ.o K1.o (by simp[dG]) (by simp[bY])),(bS [.bool (ay zz),.slice w9 (ah zz) wm,.slice bq (aj dz) bu] TQ.o K1.o (by simp[dG]) (by simp[bY])),(bC (l:=[.bool (ay zz),.slice w9 (ah zz) wm,.slice bq (aj dz) bu]) (i:=0) (by omega) l5.o)⟩
theorem ze (a0 x0 y0:ByteArray)(z k sg:Int)(n one g:Nat)(hk:0<k)(hsg:sg≠0)  (w:World)(h1:CQ 52 #[.string a0] (.tuple #[.string x0,.string y0,.bool true]))(h2:CQ 53 #[.string x0] (.bool true))(h3:CQ 54 #[.string y0] (.bool true))(h4:∀ W,CZ 56 #[.string x0] W z)(h5:∀ W,CN 57 #[.string y0] W n)(h6:∀ W,CN 58 #[.int .u32 1] W one)(h7:∀ s1 d1 s2 d2 W,RN W (.slice s1 (aj n) d1) n→RN W (.slice s2 (aj one) d2) one→CR 59 #[.slice s1 (aj n) d1,.slice s2 (aj one) d2] W (.int .i64 k))(h8:∀ p1 c1 W,RN W (.slice p1 (ah z) c1) z.natAbs→CR 60 #[.agg #[.bool (ay z),.slice p1 (ah z) c1]] W (.int .i64 sg))(h9:∀ p1 c1 s2 d2 W,RN W (.slice p1 (ah z) c1) z.natAbs→RN W (.slice s2 (aj n) d2) n→CN 61 #[.slice p1 (ah z) c1,.slice s2 (aj n) d2] W g)(h10:∀ s1 d1 s2 d2 W,RN W (.slice s1 (aj g) d1) g→RN W (.slice s2 (aj one) d2) one→CR 59 #[.slice s1 (aj g) d1,.slice s2 (aj one) d2] W (.int .i64 0))  :
 Calls Tryz.prog 35 #[.string a0] w fun e w'=>∃ p c s d,e=.returned (.tuple #[.agg #[.bool (ay z),.slice p (ah z) c,.slice s (aj n) d],.bool true])∧RN w' (.slice p (ah z) c) z.natAbs∧RN w' (.slice s (aj n) d) n∧Below w.heap.size w w':=by
 obtain ⟨C1,C2,C3,C4,C5,C6,C7,C8,C9⟩:=cz h1 h2 h3 h4 h5 h6 h7 h8 h9;have C10:=hid h10;have k0:decide (0<k)=true:=decide_eq_true hk;have k1:0<k:=hk;clear hk;have s0:(sg==0)=false:=by rw[beq_eq_false_iff_ne];exact hsg
 have s1:¬ sg=0:=hsg;have s2:(sg != 0)=true:=by unfold bne;rw[s0];rfl
 have s3:decide (sg=0)=false:=decide_eq_false hsg;clear hsg h1 h2 h3 h4 h5 h6 h7 h8 h9 h10;go_enter func35,ntmps35
 go_upto_region 1 with fail
 refine aH w [(#[.bool false,.slice none 0 0,.slice none 0 0],53)] rfl ?_;rintro W0 ⟨k1,hb⟩;have rM:=hid (show Below w.heap.size w W0 from hb);have K1:=hid k1;clear k1 hb;go_wp2_with fail
 with_reducible refine(C1.o _).mono ?_
 rintro e W1 ⟨rfl,hb⟩;have K1:=hid (K1.o.below hb);have u6:=hbt rM hb;clear hb;go_wp2_with fail
 with_reducible refine(C2.o _).mono ?_
 rintro e W2 ⟨rfl,hb⟩;have K1:=hid (K1.o.below hb);have wo:=hbt u6 hb;clear hb;go_wp2_with fail
 with_reducible refine(C3.o _).mono ?_
 rintro e W3 ⟨rfl,hb⟩;have K1:=hid (K1.o.below hb);have mf:=hbt wo hb;clear hb;go_wp2_with fail
 with_reducible refine(C4.o _).mono ?_
 rintro e W4 ⟨w9,wm,rfl,wu,hb⟩;have K1:=hid (K1.o.below hb);have l5:=hbt mf hb;have RZ:=hid wu;clear hb wu;go_wp2_with fail
 with_reducible refine(C5.o _).mono ?_
 rintro e W5 ⟨ww,sw,rfl,oM,hb⟩;obtain ⟨K1,RZ⟩:=bG hb K1 RZ;have oV:=hbt l5 hb;have RM:=hid oM;clear hb oM;go_upto_region 5 with fail
 refine aH W5 [(#[.bool (ay z),.slice w9 (ah z) wm,.slice ww (aj n) sw],53)] rfl ?_;have L1:=K1.o.lt;have L2:=oV.o.size;rintro W6 ⟨k2,hb⟩;have hb:Below W5.heap.size W5 W6:=hb;obtain ⟨K1,RZ,RM⟩:=df hb K1 RZ RM;have lv:=hbt oV hb;have K2:=hid k2;clear k2 hb;go_wp2_with fail
 with_reducible refine(C6.o _).mono ?_
 rintro e W7 ⟨p_6,c_6,rfl,lg,hb⟩;obtain ⟨K1,K2,RZ,RM⟩:=cB hb K1 K2 RZ RM;have gF:=hbt lv hb;have RO:=hid lg;clear hb lg;have r9:=K2.o.cell (i:=2) rfl;go_wp2_with fail
 with_reducible refine(C7.o _ _ _ _ _ RM.o RO.o).mono ?_
 rintro e W8 ⟨rfl,hb⟩;clear r9;obtain ⟨K1,K2,RZ,RM,RO⟩:=iM hb K1 K2 RZ RM RO;have fq:=hbt gF hb;clear hb;obtain ⟨kz,ol⟩:=aV K2.o rfl rfl;go_wp2_with fail
 with_reducible refine(C8.o _ _ _ RZ.o).mono ?_
 rintro e W9 ⟨rfl,hb⟩;clear kz ol;obtain ⟨K1,K2,RZ,RM,RO⟩:=iM hb K1 K2 RZ RM RO;have fQ:=hbt fq hb;clear hb;have ol:=K2.o.cell (i:=1) rfl;have r9:=K2.o.cell (i:=2) rfl;go_wp2_with fail
 with_reducible refine(C9.o _ _ _ _ _ RZ.o RM.o).mono ?_
 rintro e W10 ⟨dn,dx,rfl,kM,hb⟩;clear ol r9;obtain ⟨K1,K2,RZ,RM,RO⟩:=iM hb K1 K2 RZ RM RO;have dX:=hbt fQ hb;have RG:=hid kM;clear hb kM;go_wp2_with fail
 with_reducible refine(C10.o _ _ _ _ _ RG.o RO.o).mono ?_
 rintro e W11 ⟨rfl,hb⟩;obtain ⟨K1,K2,RZ,RM⟩:=cB hb K1 K2 RZ RM;have u08:=hbt dX hb;clear hb;obtain ⟨kz,ol,r9⟩:=bT K2.o rfl rfl rfl;obtain ⟨rV,pq,mi⟩:=bT K1.o rfl rfl rfl;obtain ⟨kV,gy,ed⟩:=fA K1.o;go_wp2;exact bodyPost_ret (v:=.tuple #[.agg #[.bool (ay z),.slice w9 (ah z) wm,.slice ww (aj n) sw],.bool true]) (by simp[results,results35,go_sem,rV,pq,mi]) rfl ⟨_,_,_,_,rfl,(bS [.bool (ay z),.slice w9 (ah z) wm,.slice ww (aj n) sw] RZ.o K1.o (by simp[dG]) (by simp[bY])),(bS [.bool (ay z),.slice w9 (ah z) wm,.slice ww (aj n) sw] RM.o K1.o (by simp[dG]) (by simp[bY])),(bC (l:=[.bool (ay z),.slice w9 (ah z) wm,.slice ww (aj n) sw]) (i:=0) (by omega) u08.o)⟩
theorem wN (a0 x0 y0:ByteArray)(z k zz:Int)(n one dz:Nat)(hk:k≤0)  (w:World)(h1:CQ 52 #[.string a0] (.tuple #[.string x0,.string y0,.bool true]))(h2:CQ 53 #[.string x0] (.bool true))(h3:CQ 54 #[.string y0] (.bool true))(h4:∀ W,CZ 56 #[.string x0] W z)(h5:∀ W,CN 57 #[.string y0] W n)(h6:∀ W,CN 58 #[.int .u32 1] W one)(h7:∀ s1 d1 s2 d2 W,RN W (.slice s1 (aj n) d1) n→RN W (.slice s2 (aj one) d2) one→CR 59 #[.slice s1 (aj n) d1,.slice s2 (aj one) d2] W (.int .i64 k))(h11:∀ W,CF 55 #[.int .i64 0] W zz dz)  :
 Calls Tryz.prog 35 #[.string a0] w fun e w'=>∃ p c s d,e=.returned (.tuple #[.agg #[.bool (ay zz),.slice p (ah zz) c,.slice s (aj dz) d],.bool false])∧RN w' (.slice p (ah zz) c) zz.natAbs∧RN w' (.slice s (aj dz) d) dz∧Below w.heap.size w w':=by
 obtain ⟨C1,C2,C3,C4,C5,C6,C7,C11⟩:=gQ h1 h2 h3 h4 h5 h6 h7 h11;have k0:decide (0<k)=false:=decide_eq_false (by omega);have k1:k≤0:=hk;clear hk h1 h2 h3 h4 h5 h6 h7 h11;go_enter func35,ntmps35
 go_upto_region 1 with fail
 refine aH w [(#[.bool false,.slice none 0 0,.slice none 0 0],53)] rfl ?_;rintro W0 ⟨k1,hb⟩;have rM:=hid (show Below w.heap.size w W0 from hb);have K1:=hid k1;clear k1 hb;go_wp2_with fail
 with_reducible refine(C1.o _).mono ?_
 rintro e W1 ⟨rfl,hb⟩;have K1:=hid (K1.o.below hb);have u6:=hbt rM hb;clear hb;go_wp2_with fail
 with_reducible refine(C2.o _).mono ?_
 rintro e W2 ⟨rfl,hb⟩;have K1:=hid (K1.o.below hb);have wo:=hbt u6 hb;clear hb;go_wp2_with fail
 with_reducible refine(C3.o _).mono ?_
 rintro e W3 ⟨rfl,hb⟩;have K1:=hid (K1.o.below hb);have mf:=hbt wo hb;clear hb;go_wp2_with fail
 with_reducible refine(C4.o _).mono ?_
 rintro e W4 ⟨w9,wm,rfl,wu,hb⟩;have K1:=hid (K1.o.below hb);have l5:=hbt mf hb;have RZ:=hid wu;clear hb wu;go_wp2_with fail
 with_reducible refine(C5.o _).mono ?_
 rintro e W5 ⟨ww,sw,rfl,oM,hb⟩;have K1:=hid (K1.o.below hb);have oV:=hbt l5 hb;have RM:=hid oM;clear hb oM;go_upto_region 5 with fail
 refine aH W5 [(#[.bool (ay z),.slice w9 (ah z) wm,.slice ww (aj n) sw],53)] rfl ?_;have L1:=K1.o.lt;have L2:=oV.o.size;rintro W6 ⟨k2,hb⟩;have hb:Below W5.heap.size W5 W6:=hb;obtain ⟨K1,RM⟩:=bG hb K1 RM;have lv:=hbt oV hb;have K2:=hid k2;clear k2 hb;go_wp2_with fail
 with_reducible refine(C6.o _).mono ?_
 rintro e W7 ⟨p_6,c_6,rfl,lg,hb⟩;obtain ⟨K1,K2,RM⟩:=df hb K1 K2 RM;have gF:=hbt lv hb;have RO:=hid lg;clear hb lg;have r9:=K2.o.cell (i:=2) rfl;go_wp2_with fail
 with_reducible refine(C7.o _ _ _ _ _ RM.o RO.o).mono ?_
 rintro e W8 ⟨rfl,hb⟩;clear r9;obtain ⟨K1,K2⟩:=bG hb K1 K2;have fq:=hbt gF hb;clear hb;obtain ⟨kz,ol,r9⟩:=bT K2.o rfl rfl rfl;go_wp2_with fail
 with_reducible refine(C11.o _).mono ?_
 rintro e W9 ⟨bv,bz,bM,bV,rfl,u0e,u0f,hb⟩;clear kz ol r9;have K1:=hid (K1.o.below hb);have fQ:=hbt fq hb;have RQ:=hid u0e;have TQ:=hid u0f;clear hb u0e u0f;obtain ⟨rV,pq,mi⟩:=bT K1.o rfl rfl rfl;obtain ⟨kV,gy,ed⟩:=fA K1.o;go_wp2;exact bodyPost_ret (v:=.tuple #[.agg #[.bool (ay zz),.slice bv (ah zz) bz,.slice bM (aj dz) bV],.bool false]) (by simp[results,results35,go_sem,rV,pq,mi]) rfl ⟨_,_,_,_,rfl,(bS [.bool (ay zz),.slice bv (ah zz) bz,.slice bM (aj dz) bV] RQ.o K1.o (by simp[dG]) (by simp[bY])),(bS [.bool (ay zz),.slice bv (ah zz) bz,.slice bM (aj dz) bV] TQ.o K1.o (by simp[dG]) (by simp[bY])),(bC (l:=[.bool (ay zz),.slice bv (ah zz) bz,.slice bM (aj dz) bV]) (i:=0) (by omega) fQ.o)⟩
theorem z8 (a0 x0 y0:ByteArray)(z k zz:Int)(n one dz:Nat)(hk:0<k)  (w:World)(h1:CQ 52 #[.string a0] (.tuple #[.string x0,.string y0,.bool true]))(h2:CQ 53 #[.string x0] (.bool true))(h3:CQ 54 #[.string y0] (.bool true))(h4:∀ W,CZ 56 #[.string x0] W z)(h5:∀ W,CN 57 #[.string y0] W n)(h6:∀ W,CN 58 #[.int .u32 1] W one)(h7:∀ s1 d1 s2 d2 W,RN W (.slice s1 (aj n) d1) n→RN W (.slice s2 (aj one) d2) one→CR 59 #[.slice s1 (aj n) d1,.slice s2 (aj one) d2] W (.int .i64 k))(h8:∀ p1 c1 W,RN W (.slice p1 (ah z) c1) z.natAbs→CR 60 #[.agg #[.bool (ay z),.slice p1 (ah z) c1]] W (.int .i64 0))(h11:∀ W,CF 55 #[.int .i64 0] W zz dz)  :
 Calls Tryz.prog 35 #[.string a0] w fun e w'=>∃ p c s d,e=.returned (.tuple #[.agg #[.bool (ay zz),.slice p (ah zz) c,.slice s (aj dz) d],.bool false])∧RN w' (.slice p (ah zz) c) zz.natAbs∧RN w' (.slice s (aj dz) d) dz∧Below w.heap.size w w':=by
 obtain ⟨C1,C2,C3,C4,C5,C6,C7,C8,C11⟩:=cz h1 h2 h3 h4 h5 h6 h7 h8 h11;have k0:decide (0<k)=true:=decide_eq_true hk;have k1:0<k:=hk;clear hk h1 h2 h3 h4 h5 h6 h7 h8 h11;go_enter func35,ntmps35
 go_upto_region 1 with fail
 refine aH w [(#[.bool false,.slice none 0 0,.slice none 0 0],53)] rfl ?_;rintro W0 ⟨k1,hb⟩;have rM:=hid (show Below w.heap.size w W0 from hb);have K1:=hid k1;clear k1 hb;go_wp2_with fail
 with_reducible refine(C1.o _).mono ?_
 rintro e W1 ⟨rfl,hb⟩;have K1:=hid (K1.o.below hb);have u6:=hbt rM hb;clear hb;go_wp2_with fail
 with_reducible refine(C2.o _).mono ?_
 rintro e W2 ⟨rfl,hb⟩;have K1:=hid (K1.o.below hb);have wo:=hbt u6 hb;clear hb;go_wp2_with fail
 with_reducible refine(C3.o _).mono ?_
 rintro e W3 ⟨rfl,hb⟩;have K1:=hid (K1.o.below hb);have mf:=hbt wo hb;clear hb;go_wp2_with fail
 with_reducible refine(C4.o _).mono ?_
 rintro e W4 ⟨w9,wm,rfl,wu,hb⟩;have K1:=hid (K1.o.below hb);have l5:=hbt mf hb;have RZ:=hid wu;clear hb wu;go_wp2_with fail
 with_reducible refine(C5.o _).mono ?_
 rintro e W5 ⟨ww,sw,rfl,oM,hb⟩;obtain ⟨K1,RZ⟩:=bG hb K1 RZ;have oV:=hbt l5 hb;have RM:=hid oM;clear hb oM;go_upto_region 5 with fail
 refine aH W5 [(#[.bool (ay z),.slice w9 (ah z) wm,.slice ww (aj n) sw],53)] rfl ?_;have L1:=K1.o.lt;have L2:=oV.o.size;rintro W6 ⟨k2,hb⟩;have hb:Below W5.heap.size W5 W6:=hb;obtain ⟨K1,RZ,RM⟩:=df hb K1 RZ RM;have lv:=hbt oV hb;have K2:=hid k2;clear k2 hb;go_wp2_with fail
 with_reducible refine(C6.o _).mono ?_
 rintro e W7 ⟨p_6,c_6,rfl,lg,hb⟩;obtain ⟨K1,K2,RZ,RM⟩:=cB hb K1 K2 RZ RM;have gF:=hbt lv hb;have RO:=hid lg;clear hb lg;have r9:=K2.o.cell (i:=2) rfl;go_wp2_with fail
 with_reducible refine(C7.o _ _ _ _ _ RM.o RO.o).mono ?_
 rintro e W8 ⟨rfl,hb⟩;clear r9;obtain ⟨K1,K2,RZ⟩:=df hb K1 K2 RZ;have fq:=hbt gF hb;clear hb;obtain ⟨kz,ol⟩:=aV K2.o rfl rfl;go_wp2_with fail
 with_reducible refine(C8.o _ _ _ RZ.o).mono ?_
 rintro e W9 ⟨rfl,hb⟩;clear kz ol;obtain ⟨K1,K2⟩:=bG hb K1 K2;have fQ:=hbt fq hb;clear hb;have ol:=K2.o.cell (i:=1) rfl;have r9:=K2.o.cell (i:=2) rfl;go_wp2_with fail
 with_reducible refine(C11.o _).mono ?_
 rintro e W10 ⟨dn,dx,af,au,rfl,kM,u0g,hb⟩;clear ol r9;have K1:=hid (K1.o.below hb);have dX:=hbt fQ hb;have RQ:=hid kM;have TQ:=hid u0g;clear hb kM u0g;obtain ⟨rV,pq,mi⟩:=bT K1.o rfl rfl rfl;obtain ⟨kV,gy,ed⟩:=fA K1.o;go_wp2;exact bodyPost_ret (v:=.tuple #[.agg #[.bool (ay zz),.slice dn (ah zz) dx,.slice af (aj dz) au],.bool false]) (by simp[results,results35,go_sem,rV,pq,mi]) rfl ⟨_,_,_,_,rfl,(bS [.bool (ay zz),.slice dn (ah zz) dx,.slice af (aj dz) au] RQ.o K1.o (by simp[dG]) (by simp[bY])),(bS [.bool (ay zz),.slice dn (ah zz) dx,.slice af (aj dz) au] TQ.o K1.o (by simp[dG]) (by simp[bY])),(bC (l:=[.bool (ay zz),.slice dn (ah zz) dx,.slice af (aj dz) au]) (i:=0) (by omega) dX.o)⟩
theorem tO (a0 x0 y0:ByteArray)(z k k2 sg zz:Int)(n one g dz:Nat)(hk:0<k)(hsg:sg≠0)(hk2:k2≠0)  (w:World)(h1:CQ 52 #[.string a0] (.tuple #[.string x0,.string y0,.bool true]))(h2:CQ 53 #[.string x0] (.bool true))(h3:CQ 54 #[.string y0] (.bool true))(h4:∀ W,CZ 56 #[.string x0] W z)(h5:∀ W,CN 57 #[.string y0] W n)(h6:∀ W,CN 58 #[.int .u32 1] W one)(h7:∀ s1 d1 s2 d2 W,RN W (.slice s1 (aj n) d1) n→RN W (.slice s2 (aj one) d2) one→CR 59 #[.slice s1 (aj n) d1,.slice s2 (aj one) d2] W (.int .i64 k))(h8:∀ p1 c1 W,RN W (.slice p1 (ah z) c1) z.natAbs→CR 60 #[.agg #[.bool (ay z),.slice p1 (ah z) c1]] W (.int .i64 sg))(h9:∀ p1 c1 s2 d2 W,RN W (.slice p1 (ah z) c1) z.natAbs→RN W (.slice s2 (aj n) d2) n→CN 61 #[.slice p1 (ah z) c1,.slice s2 (aj n) d2] W g)(h10:∀ s1 d1 s2 d2 W,RN W (.slice s1 (aj g) d1) g→RN W (.slice s2 (aj one) d2) one→CR 59 #[.slice s1 (aj g) d1,.slice s2 (aj one) d2] W (.int .i64 k2))(h11:∀ W,CF 55 #[.int .i64 0] W zz dz)  :
 Calls Tryz.prog 35 #[.string a0] w fun e w'=>∃ p c s d,e=.returned (.tuple #[.agg #[.bool (ay zz),.slice p (ah zz) c,.slice s (aj dz) d],.bool false])∧RN w' (.slice p (ah zz) c) zz.natAbs∧RN w' (.slice s (aj dz) d) dz∧Below w.heap.size w w':=by
 obtain ⟨C1,C2,C3,C4,C5,C6,C7,C8,C9⟩:=cz h1 h2 h3 h4 h5 h6 h7 h8 h9;have C10:=hid h10;have C11:=hid h11;have k0:decide (0<k)=true:=decide_eq_true hk;have k1:0<k:=hk;clear hk;have s0:(sg==0)=false:=by rw[beq_eq_false_iff_ne];exact hsg
 have s1:¬ sg=0:=hsg;have s2:(sg != 0)=true:=by unfold bne;rw[s0];rfl
 have s3:decide (sg=0)=false:=decide_eq_false hsg;clear hsg;have q0:(k2==0)=false:=by rw[beq_eq_false_iff_ne];exact hk2
 have q1:¬ k2=0:=hk2;clear hk2 h1 h2 h3 h4 h5 h6 h7 h8 h9 h10 h11;go_enter func35,ntmps35
 go_upto_region 1 with fail
 refine aH w [(#[.bool false,.slice none 0 0,.slice none 0 0],53)] rfl ?_;rintro W0 ⟨k1,hb⟩;have rM:=hid (show Below w.heap.size w W0 from hb);have K1:=hid k1;clear k1 hb;go_wp2_with fail
 with_reducible refine(C1.o _).mono ?_
 rintro e W1 ⟨rfl,hb⟩;have K1:=hid (K1.o.below hb);have u6:=hbt rM hb;clear hb;go_wp2_with fail
 with_reducible refine(C2.o _).mono ?_
 rintro e W2 ⟨rfl,hb⟩;have K1:=hid (K1.o.below hb);have wo:=hbt u6 hb;clear hb;go_wp2_with fail
 with_reducible refine(C3.o _).mono ?_
 rintro e W3 ⟨rfl,hb⟩;have K1:=hid (K1.o.below hb);have mf:=hbt wo hb;clear hb;go_wp2_with fail
 with_reducible refine(C4.o _).mono ?_
 rintro e W4 ⟨w9,wm,rfl,wu,hb⟩;have K1:=hid (K1.o.below hb);have l5:=hbt mf hb;have RZ:=hid wu;clear hb wu;go_wp2_with fail
 with_reducible refine(C5.o _).mono ?_
 rintro e W5 ⟨ww,sw,rfl,oM,hb⟩;obtain ⟨K1,RZ⟩:=bG hb K1 RZ;have oV:=hbt l5 hb;have RM:=hid oM;clear hb oM;go_upto_region 5 with fail
 refine aH W5 [(#[.bool (ay z),.slice w9 (ah z) wm,.slice ww (aj n) sw],53)] rfl ?_;have L1:=K1.o.lt;have L2:=oV.o.size;rintro W6 ⟨k2,hb⟩;have hb:Below W5.heap.size W5 W6:=hb;obtain ⟨K1,RZ,RM⟩:=df hb K1 RZ RM;have lv:=hbt oV hb;have K2:=hid k2;clear k2 hb;go_wp2_with fail
 with_reducible refine(C6.o _).mono ?_
 rintro e W7 ⟨p_6,c_6,rfl,lg,hb⟩;obtain ⟨K1,K2,RZ,RM⟩:=cB hb K1 K2 RZ RM;have gF:=hbt lv hb;have RO:=hid lg;clear hb lg;have r9:=K2.o.cell (i:=2) rfl;go_wp2_with fail
 with_reducible refine(C7.o _ _ _ _ _ RM.o RO.o).mono ?_
 rintro e W8 ⟨rfl,hb⟩;clear r9;obtain ⟨K1,K2,RZ,RM,RO⟩:=iM hb K1 K2 RZ RM RO;have fq:=hbt gF hb;clear hb;obtain ⟨kz,ol⟩:=aV K2.o rfl rfl;go_wp2_with fail
 with_reducible refine(C8.o _ _ _ RZ.o).mono ?_
 rintro e W9 ⟨rfl,hb⟩;clear kz ol;obtain ⟨K1,K2,RZ,RM,RO⟩:=iM hb K1 K2 RZ RM RO;have fQ:=hbt fq hb;clear hb;have ol:=K2.o.cell (i:=1) rfl;have r9:=K2.o.cell (i:=2) rfl;go_wp2_with fail
 with_reducible refine(C9.o _ _ _ _ _ RZ.o RM.o).mono ?_
 rintro e W10 ⟨dn,dx,rfl,kM,hb⟩;clear ol r9;obtain ⟨K1,RO⟩:=bG hb K1 RO;have dX:=hbt fQ hb;have RG:=hid kM;clear hb kM;go_wp2_with fail
 with_reducible refine(C10.o _ _ _ _ _ RG.o RO.o).mono ?_
 rintro e W11 ⟨rfl,hb⟩;have K1:=hid (K1.o.below hb);have u08:=hbt dX hb;clear hb;go_wp2_with fail
 with_reducible refine(C11.o _).mono ?_
 rintro e W12 ⟨u00,u01,u02,u03,rfl,u0h,u0i,hb⟩;have K1:=hid (K1.o.below hb);have u0j:=hbt u08 hb;have RQ:=hid u0h;have TQ:=hid u0i;clear hb u0h u0i;obtain ⟨rV,pq,mi⟩:=bT K1.o rfl rfl rfl;obtain ⟨kV,gy,ed⟩:=fA K1.o;go_wp2;exact bodyPost_ret (v:=.tuple #[.agg #[.bool (ay zz),.slice u00 (ah zz) u01,.slice u02 (aj dz) u03],.bool false]) (by simp[results,results35,go_sem,rV,pq,mi]) rfl ⟨_,_,_,_,rfl,(bS [.bool (ay zz),.slice u00 (ah zz) u01,.slice u02 (aj dz) u03] RQ.o K1.o (by simp[dG]) (by simp[bY])),(bS [.bool (ay zz),.slice u00 (ah zz) u01,.slice u02 (aj dz) u03] TQ.o K1.o (by simp[dG]) (by simp[bY])),(bC (l:=[.bool (ay zz),.slice u00 (ah zz) u01,.slice u02 (aj dz) u03]) (i:=0) (by omega) u0j.o)⟩
