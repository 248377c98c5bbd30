/- texts -/
import Derived.Test.YtoaeaiiabelhkaaGreatDoorMz39q
set_option maxRecDepth 100000
set_option maxHeartbeats 20000000
open Go.Lib (hid)
namespace Go.Proofs.YtoaeaiiabelhkaaGreatDoor
open Go.RowKit Go.Gb
def fA (p:Rat × Rat) (x:Rat):Rat × Rat:=if x<p.1 then (x,p.2) else if p.2<x then (p.1,x) else p
def exOf (q:Nat→Rat):Nat→Rat × Rat
 | 0=>(q 0,q 0)
 | i+1=>fA (exOf q i) (q (i+1))
theorem yB (q:Nat→Rat):∀ i:Nat,(∀ j,j≤i→aO (q j))→aO (exOf q i).1∧aO (exOf q i).2
 | 0,h=>⟨h 0 (Nat.le_refl _),h 0 (Nat.le_refl _)⟩
 | i+1,h=>by
   have h1:=yB q i (fun j hj=>h j (by omega));have h2:=h (i+1) (Nat.le_refl _);show aO (fA (exOf q i) (q (i+1))).1∧aO (fA (exOf q i) (q (i+1))).2
   unfold fA
   split
   · exact⟨h2,h1.2⟩
   · split
     · exact⟨h1.1,h2⟩
     · exact h1
theorem kT (x y:Rat)(c:Int)(hc:cmpQ x y=c)(hx:aO x)(hy:aO y)(w:World)(hl:La w) :
 CR 73 #[.string (Sq x),.string (Sq y)] w (.int .i64 c):=zC _ _ _ _ w (ru x y c hc hx hy w hl)
def Ex (w wr:World) (lo hi:Rat):Prop:=Below w.heap.size w wr∧w.heap.size+2≤wr.heap.size∧(wr.cell? ⟨w.heap.size,0,none⟩=some (.string ⟨#[]⟩)∧wr.cell? ⟨w.heap.size,1,none⟩=some (.string ⟨#[]⟩)∧wr.frozen? ⟨w.heap.size,0,none⟩=false∧wr.frozen? ⟨w.heap.size,1,none⟩=false) ∧
 (wr.cell? ⟨w.heap.size+1,0,none⟩=some (.string (Sq lo))∧wr.cell? ⟨w.heap.size+1,1,none⟩=some (.string (Sq hi))∧wr.frozen? ⟨w.heap.size+1,0,none⟩=false∧wr.frozen? ⟨w.heap.size+1,1,none⟩=false)
theorem Ex.call {w a b:World}{lo hi:Rat}(h:Ex w a lo hi)(hb:Below a.heap.size a b):Ex w b lo hi:=by
 obtain⟨h1,h2,⟨a0,a1,a2,a3⟩,⟨b0,b1,b2,b3⟩⟩:=h;refine⟨h1.trans (hb.mono h1.size),Nat.le_trans h2 hb.size,⟨?_,?_,?_,?_⟩,⟨?_,?_,?_,?_⟩⟩
 · exact(hb.cell (p:=⟨w.heap.size,0,none⟩) (by show w.heap.size<_;omega)).trans a0
 · exact(hb.cell (p:=⟨w.heap.size,1,none⟩) (by show w.heap.size<_;omega)).trans a1
 · exact(hb.frozen (p:=⟨w.heap.size,0,none⟩) (by show w.heap.size<_;omega)).trans a2
 · exact(hb.frozen (p:=⟨w.heap.size,1,none⟩) (by show w.heap.size<_;omega)).trans a3
 · exact(hb.cell (p:=⟨w.heap.size+1,0,none⟩) (by show w.heap.size+1<_;omega)).trans b0
 · exact(hb.cell (p:=⟨w.heap.size+1,1,none⟩) (by show w.heap.size+1<_;omega)).trans b1
 · exact(hb.frozen (p:=⟨w.heap.size+1,0,none⟩) (by show w.heap.size+1<_;omega)).trans b2
 · exact(hb.frozen (p:=⟨w.heap.size+1,1,none⟩) (by show w.heap.size+1<_;omega)).trans b3
theorem Ex.drew {w a:World}{lo hi:Rat}(h:Ex w a lo hi):Ex w a.drew lo hi:=⟨h.1.drew,h.2.1,h.2.2⟩
theorem Ex.setLo {w a:World}{lo hi:Rat}(h:Ex w a lo hi)(x:Rat):Ex w (a.setCell ⟨w.heap.size+1,0,none⟩ (.string (Sq x))) x hi:=by
 obtain⟨h1,h2,⟨a0,a1,a2,a3⟩,⟨b0,b1,b2,b3⟩⟩:=h;refine⟨h1.setCell (p:=⟨w.heap.size+1,0,none⟩) (by show w.heap.size≤w.heap.size+1;omega) _,by simpa using h2,⟨(aY (by omega)).trans a0,(aY (by omega)).trans a1,?_,?_⟩,⟨World.cell?_setCell_same _ _ _ b0,(World.cell?_setCell_other _ _ _ _ (by intro e;injection e with e1 e2;exact absurd e2 (by decide))).trans b1,?_,?_⟩⟩<;>rw[uz]<;>assumption
theorem Ex.setHi {w a:World}{lo hi:Rat}(h:Ex w a lo hi)(x:Rat):Ex w (a.setCell ⟨w.heap.size+1,1,none⟩ (.string (Sq x))) lo x:=by
 obtain⟨h1,h2,⟨a0,a1,a2,a3⟩,⟨b0,b1,b2,b3⟩⟩:=h;refine⟨h1.setCell (p:=⟨w.heap.size+1,1,none⟩) (by show w.heap.size≤w.heap.size+1;omega) _,by simpa using h2,⟨(aY (by omega)).trans a0,(aY (by omega)).trans a1,?_,?_⟩,⟨(World.cell?_setCell_other _ _ _ _ (by intro e;injection e with e1 e2;exact absurd e2 (by decide))).trans b0,World.cell?_setCell_same _ _ _ b1,?_,?_⟩⟩<;>rw[uz]<;>assumption
theorem Ex.start (w:World)(x:Rat):Ex w ((w.alloc (.cells #[.string ⟨#[]⟩,.string ⟨#[]⟩] 25)).alloc (.cells #[.string (Sq x),.string (Sq x)] 25)) x x:=by
 refine⟨((Below.refl w.heap.size w).alloc (Nat.le_refl _) _).alloc (by simp) _,by simp,⟨(q_lt (by simp)).trans ((aM rfl).trans rfl),(q_lt (by simp)).trans ((aM rfl).trans rfl),(jV (by simp)).trans (bG rfl),(jV (by simp)).trans (bG rfl)⟩,⟨(aM (by simp)).trans rfl,(aM (by simp)).trans rfl,bG (by simp),bG (by simp)⟩⟩
theorem mK (g n c:Nat)(q:Nat→Rat)(hn1:2≤n)(hn2:n≤5000)(hnc:n≤c)(w:World)(hl:La w)(hg:g<w.heap.size)
 (hq:∀ i,i<n→aO (q i)) (hcell:∀ i,i<n→w.cell? ⟨g,i,none⟩=some (.string (Sq (q i)))) :
 CR 129 #[.slice (some ⟨g,0,none⟩) n c] w (.agg #[.string (Sq (exOf q (n-1)).1),.string (Sq (exOf q (n-1)).2)]):=by
 obtain ⟨HQ,HC,HL⟩:=ak hq hcell hl;have hn3:(0:Int)<(n:Int):=by omega
 have hn4:(1:Int)≤(n:Int):=by omega
 have hn6:0<n:=by omega
 have hn7:¬ (n:Int)≤0:=by omega
 have hn8:¬ n=0:=by omega
 have hn5:(n:Int)≤(c:Int):=by omega
 have k0:(w.alloc (.cells #[.string ⟨#[]⟩,.string ⟨#[]⟩] 25)).cell? ⟨g,0,none⟩=some (.string (Sq (q 0))):=(q_lt hg).trans (hcell 0 (by omega));clear hcell hq hl;go_enter Tryz.func129,Tryz.ntmps129
 have KC:=hid (show ∀ W:World,Below w.heap.size w W→W.cell? ⟨g,0,none⟩=some (.string (Sq (q 0))) from fun W hB=>(hB.cell (p:=⟨g,0,none⟩) hg).trans (HC.o 0 (by omega)));have F0:=hid ((Below.refl w.heap.size w).alloc (Nat.le_refl _) (.cells #[.string ⟨#[]⟩,.string ⟨#[]⟩] 25));have F1:=hid (fun o=>F0.o.alloc (o:=o) (by simp));have F2:=hid (fun o=>F0.o.drew.alloc (o:=o) (by simp));go_wp2_with fail
 go_region_held3 (fun w'=>w'.cell? ⟨g,0,none⟩=some (.string (Sq (q 0)))) (first|(with_reducible exact KC.o _ F0.o)|(with_reducible exact KC.o _ F0.o.drew)|(with_reducible exact KC.o _ (F1.o _))|(with_reducible exact KC.o _ (F2.o _))|(with_reducible exact KC.o _ (F1.o _).drew))
  (fail)
 have E0:=hid (Ex.start w (q 0)).drew;clear k0 F0 F1 F2;generalize ((w.alloc (.cells #[.string ⟨#[]⟩,.string ⟨#[]⟩] 25)).alloc (.cells #[.string (Sq (q 0)),.string (Sq (q 0))] 25)).drew=w0 at *;go_wp2_with fail
 go_loopw [5,16] (fun _ ii wr=>∃ (i:Nat),i+1≤n∧ii=.int .i64 (i:Int)∧Hid (Ex w wr (exOf q i).1 (exOf q i).2)) (fun _ ii _=>n-(intOf ii).toNat)
 case atStart=>exact⟨0,by omega,rfl,E0⟩
 case round =>
  obtain⟨i,hi,rfl,hE⟩:=hrel;have hi2:(i:Int)≤5000:=by omega
  have hi3:(0:Int)≤(i:Int):=by omega
  have wi:IntKind.i64.wrap ((i:Int)+1)=(i:Int)+1:=IntWalk.i64_in _ (by omega);obtain⟨⟨r0,r1,r2,r3⟩,⟨f0,f1,f2,f3⟩⟩:=hE.o.2.2;by_cases hlt:i+1<n
  · have hcx:=(hE.o.1.cell (p:=⟨g,i+1,none⟩) hg).trans (HC.o (i+1) hlt)
    have hcx2:=hcx;rw[Nat.add_comm i 1]at hcx2;have hlt2:(i:Int)<((n-1:Nat):Int):=by omega
    have hlt3:i<n-1:=by omega
    have hfit:=yB q i (fun j hj=>HQ.o j (by omega));have FX:=HQ.o (i+1) hlt;have hnext:exOf q (i+1)=fA (exOf q i) (q (i+1)):=rfl;generalize hp:exOf q i=p at *;obtain⟨lo,up⟩:=p;rw[show q (1+i)=q (i+1) by rw[Nat.add_comm]]at hcx2;generalize q (i+1)=x at *;clear hp;by_cases h1:x<lo
    · have HO:=hid (fun W hW=>kT x lo (-1) (oo h1) FX hfit.1 W hW)
      have HNX:=hid (show exOf q (i+1)=(x,up) by rw[hnext];unfold fA;rw[if_pos h1]);clear hnext h1 FX hfit;go_wp2_with fail
      refine(HO.o _ (HL.o.on hE.o.1)).mono ?_;rintro e w1 ⟨rfl,hb⟩;have hE1:=hid (hE.o.call hb);clear hb r0 r1 r2 r3 f0 f1 f2 f3 hcx hcx2;obtain⟨⟨r0,r1,r2,r3⟩,⟨f0,f1,f2,f3⟩⟩:=hE1.o.2.2;go_wp2;go_roundw
      case rel=>exact⟨i+1,by omega,by go_num,hid (by rw[HNX.o];exact hE1.o.setLo x)⟩
      case measure=>simp[intOf];omega
    · obtain⟨c1,hc1,hc2'⟩:∃ c1,cmpQ x lo=c1∧decide (c1<0)=false:=by
       rcases cz x lo with⟨h,e⟩|⟨h,e⟩|⟨h,e⟩
       · exact absurd h h1
       · exact⟨0,e,by decide⟩
       · exact⟨1,e,by decide⟩
      have HO:=hid (fun W hW=>kT x lo c1 hc1 FX hfit.1 W hW);by_cases h2:up<x
      · have HO2:=hid (fun W hW=>kT x up 1 (mh h2) FX hfit.2 W hW)
        have HNX:=hid (show exOf q (i+1)=(lo,x) by rw[hnext];unfold fA;rw[if_neg h1,if_pos h2]);clear hnext h1 h2 FX hfit hc1;go_wp2_with fail
        refine(HO.o _ (HL.o.on hE.o.1)).mono ?_;rintro e w1 ⟨rfl,hb⟩;have hE1:=hid (hE.o.call hb);clear hb r0 r1 r2 r3 f0 f1 f2 f3 hcx hcx2;obtain⟨⟨r0,r1,r2,r3⟩,⟨f0,f1,f2,f3⟩⟩:=hE1.o.2.2;go_wp2_with fail
        refine(HO2.o _ (HL.o.on hE1.o.1)).mono ?_;rintro e w2 ⟨rfl,hb⟩;have hE2:=hid (hE1.o.call hb);clear hb r0 r1 r2 r3 f0 f1 f2 f3;obtain⟨⟨r0,r1,r2,r3⟩,⟨f0,f1,f2,f3⟩⟩:=hE2.o.2.2;go_wp2;go_roundw
        case rel=>exact⟨i+1,by omega,by go_num,hid (by rw[HNX.o];exact hE2.o.setHi x)⟩
        case measure=>simp[intOf];omega
      · obtain⟨c3,hc3,hc4⟩:∃ c3,cmpQ x up=c3∧decide (0<c3)=false:=by
         rcases cz x up with⟨h,e⟩|⟨h,e⟩|⟨h,e⟩
         · exact⟨-1,e,by decide⟩
         · exact⟨0,e,by decide⟩
         · exact absurd h h2
        have HO2:=hid (fun W hW=>kT x up c3 hc3 FX hfit.2 W hW);have HNX:=hid (show exOf q (i+1)=(lo,up) by rw[hnext];unfold fA;rw[if_neg h1,if_neg h2]);clear hnext h1 h2 FX hfit hc1 hc3;go_wp2_with fail
        refine(HO.o _ (HL.o.on hE.o.1)).mono ?_;rintro e w1 ⟨rfl,hb⟩;have hE1:=hid (hE.o.call hb);clear hb r0 r1 r2 r3 f0 f1 f2 f3 hcx hcx2;obtain⟨⟨r0,r1,r2,r3⟩,⟨f0,f1,f2,f3⟩⟩:=hE1.o.2.2;go_wp2_with fail
        refine(HO2.o _ (HL.o.on hE1.o.1)).mono ?_;rintro e w2 ⟨rfl,hb⟩;have hE2:=hid (hE1.o.call hb);clear hb r0 r1 r2 r3 f0 f1 f2 f3;obtain⟨⟨r0,r1,r2,r3⟩,⟨f0,f1,f2,f3⟩⟩:=hE2.o.2.2;go_wp2;go_roundw
        case rel=>exact⟨i+1,by omega,by go_num,hid (by rw[HNX.o];exact hE2.o)⟩
        case measure=>simp[intOf];omega
  · have hge:decide ((i:Int)<((n-1:Nat):Int))=false:=by rw[decide_eq_false_iff_not];omega
    have hin:n-1=i:=by omega
    go_wp2;refine bodyPost_ret (v:=.agg #[.string (Sq (exOf q i).1),.string (Sq (exOf q i).2)]) (by simp[results,Tryz.results129,go_sem,r0,r1]) rfl ⟨by rw[hin],?_⟩;exact(hE.o.1.setCell (p:=⟨w.heap.size,0,none⟩) (Nat.le_refl _) _).setCell (p:=⟨w.heap.size,1,none⟩) (Nat.le_refl _) _
open Go.Lib (hid)
def Cb (w wr:World) (l1 h1 l2 h2:ByteArray) (c:Nat→ByteArray):Prop:=Below w.heap.size w wr∧w.heap.size+4≤wr.heap.size ∧
 (∀ k b,(k,b)∈[(0,(l1,h1)),(1,(l2,h2)),(2,((⟨#[]⟩:ByteArray),(⟨#[]⟩:ByteArray)))]→(wr.cell? ⟨w.heap.size+k,0,none⟩=some (.string b.1)∧wr.cell? ⟨w.heap.size+k,1,none⟩=some (.string b.2)∧wr.frozen? ⟨w.heap.size+k,0,none⟩=false∧wr.frozen? ⟨w.heap.size+k,1,none⟩=false)) ∧
 (∀ k,k<4→wr.cell? ⟨w.heap.size+3,k,none⟩=some (.string (c k))∧wr.frozen? ⟨w.heap.size+3,k,none⟩=false)
theorem Cb.call {w a b:World}{l1 h1 l2 h2:ByteArray}{c:Nat→ByteArray}(h:Cb w a l1 h1 l2 h2 c)(hb:Below a.heap.size a b):Cb w b l1 h1 l2 h2 c:=by
 obtain⟨e1,e2,e3,e4⟩:=h;refine⟨e1.trans (hb.mono e1.size),Nat.le_trans e2 hb.size,fun k p hk=>?_,fun k hk=>?_⟩
 · obtain⟨c0,c1,f0,f1⟩:=e3 k p hk
   have hk3:k<3:=by simp at hk;omega
   exact⟨(hb.cell (p:=⟨w.heap.size+k,0,none⟩) (by show w.heap.size+k<_;omega)).trans c0,(hb.cell (p:=⟨w.heap.size+k,1,none⟩) (by show w.heap.size+k<_;omega)).trans c1,(hb.frozen (p:=⟨w.heap.size+k,0,none⟩) (by show w.heap.size+k<_;omega)).trans f0,(hb.frozen (p:=⟨w.heap.size+k,1,none⟩) (by show w.heap.size+k<_;omega)).trans f1⟩
 · obtain⟨c0,f0⟩:=e4 k hk
   exact⟨(hb.cell (p:=⟨w.heap.size+3,k,none⟩) (by show w.heap.size+3<_;omega)).trans c0,(hb.frozen (p:=⟨w.heap.size+3,k,none⟩) (by show w.heap.size+3<_;omega)).trans f0⟩
theorem Cb.store {w a:World}{l1 h1 l2 h2:ByteArray}{c:Nat→ByteArray}(h:Cb w a l1 h1 l2 h2 c)(k:Nat)(hk:k<4)(v:ByteArray):Cb w (a.setCell ⟨w.heap.size+3,k,none⟩ (.string v)) l1 h1 l2 h2 (fun j=>if j=k then v else c j):=by
 obtain⟨e1,e2,e3,e4⟩:=h;refine⟨e1.setCell (p:=⟨w.heap.size+3,k,none⟩) (by show w.heap.size≤w.heap.size+3;omega) _,by simpa using e2,fun j p hj=>?_,fun j hj=>?_⟩
 · obtain⟨c0,c1,f0,f1⟩:=e3 j p hj
   have hj3:j<3:=by simp at hj;omega
   rw[uz,uz];exact⟨(aY (by omega)).trans c0,(aY (by omega)).trans c1,f0,f1⟩
 · obtain⟨c0,f0⟩:=e4 j hj
   rw[uz];by_cases hjk:j=k
   · subst hjk
     refine⟨?_,f0⟩;show _=some (Value.string (if j=j then v else c j))
     rw[if_pos rfl];exact World.cell?_setCell_same _ _ _ c0
   · show(_=some (Value.string (if j=k then v else c j)))∧_
     rw[if_neg hjk];exact⟨(World.cell?_setCell_other _ _ _ _ (by intro e;injection e with e1 e2;exact hjk e2.symm)).trans c0,f0⟩
theorem Cb.facts {w a:World}{l1 h1 l2 h2:ByteArray}{c:Nat→ByteArray}(h:Cb w a l1 h1 l2 h2 c) :
 (a.cell? ⟨w.heap.size,0,none⟩=some (.string l1)∧a.cell? ⟨w.heap.size,1,none⟩=some (.string h1)) ∧
 (a.cell? ⟨w.heap.size+1,0,none⟩=some (.string l2)∧a.cell? ⟨w.heap.size+1,1,none⟩=some (.string h2)) ∧
 (a.cell? ⟨w.heap.size+1+1,0,none⟩=some (.string ⟨#[]⟩)∧a.cell? ⟨w.heap.size+1+1,1,none⟩=some (.string ⟨#[]⟩)∧a.frozen? ⟨w.heap.size+1+1,0,none⟩=false∧a.frozen? ⟨w.heap.size+1+1,1,none⟩=false) ∧
 (a.cell? ⟨w.heap.size+1+1+1,0,none⟩=some (.string (c 0))∧a.cell? ⟨w.heap.size+1+1+1,1,none⟩=some (.string (c 1))∧a.cell? ⟨w.heap.size+1+1+1,2,none⟩=some (.string (c 2))∧a.cell? ⟨w.heap.size+1+1+1,3,none⟩=some (.string (c 3))) ∧
 (a.frozen? ⟨w.heap.size+1+1+1,0,none⟩=false∧a.frozen? ⟨w.heap.size+1+1+1,1,none⟩=false∧a.frozen? ⟨w.heap.size+1+1+1,2,none⟩=false∧a.frozen? ⟨w.heap.size+1+1+1,3,none⟩=false):=by
 obtain⟨e1,e2,e3,e4⟩:=h;have a0:=e3 0 _ (.head _);have a1:=e3 1 _ (.tail _ (.head _));have a2:=e3 2 _ (.tail _ (.tail _ (.head _)));exact⟨⟨a0.1,a0.2.1⟩,⟨a1.1,a1.2.1⟩,a2,⟨(e4 0 (by decide)).1,(e4 1 (by decide)).1,(e4 2 (by decide)).1,(e4 3 (by decide)).1⟩,⟨(e4 0 (by decide)).2,(e4 1 (by decide)).2,(e4 2 (by decide)).2,(e4 3 (by decide)).2⟩⟩
theorem Cb.start (w:World)(l1 h1 l2 h2:ByteArray):Cb w ((((w.alloc (.cells #[.string l1,.string h1] 25)).alloc (.cells #[.string l2,.string h2] 25)).alloc (.cells #[.string ⟨#[]⟩,.string ⟨#[]⟩] 25)).alloc (.cells #[.string ⟨#[]⟩,.string ⟨#[]⟩,.string ⟨#[]⟩,.string ⟨#[]⟩] 146)) l1 h1 l2 h2 (fun _=>⟨#[]⟩):=by
 refine⟨?_,by simp,fun k p hk=>?_,fun k hk=>?_⟩
 · repeat (first|exact Below.refl _ _|refine Below.alloc ?_ (by first|omega|(simp;omega)|simp) _)
 · simp only[List.mem_cons,Prod.mk.injEq,List.mem_nil_iff,or_false]at hk
   rcases hk with⟨rfl,rfl⟩|⟨rfl,rfl⟩|⟨rfl,rfl⟩
   · exact⟨(q_lt).trans ((q_lt).trans ((q_lt).trans ((aM).trans rfl))),(q_lt).trans ((q_lt).trans ((q_lt).trans ((aM).trans rfl))),(jV).trans ((jV).trans ((jV).trans (bG))),(jV).trans ((jV).trans ((jV).trans (bG)))⟩
   · exact⟨(q_lt).trans ((q_lt).trans ((aM).trans rfl)),(q_lt).trans ((q_lt).trans ((aM).trans rfl)),(jV).trans ((jV).trans (bG)),(jV).trans ((jV).trans (bG))⟩
   · exact⟨(q_lt).trans ((aM).trans rfl),(q_lt).trans ((aM).trans rfl),(jV).trans (bG),(jV).trans (bG)⟩
 · match k,hk with
   | 0,_=>exact⟨(aM).trans rfl,bG⟩
   | 1,_=>exact⟨(aM).trans rfl,bG⟩
   | 2,_=>exact⟨(aM).trans rfl,bG⟩
   | 3,_=>exact⟨(aM).trans rfl,bG⟩
theorem oZ (l1 h1 l2 h2 p0 p1 p2 p3 lo hi:ByteArray)(w:World)(hl:La w)
 (g0:CL 69 #[.string l1,.string l2] (.tuple #[.string p0,.int .i64 0]))
 (g1:CL 69 #[.string l1,.string h2] (.tuple #[.string p1,.int .i64 0]))
 (g2:CL 69 #[.string h1,.string l2] (.tuple #[.string p2,.int .i64 0]))
 (g3:CL 69 #[.string h1,.string h2] (.tuple #[.string p3,.int .i64 0]))
 (g4:∀ W g,La W→g<W.heap.size→W.cell? ⟨g,0,none⟩=some (.string p0)→W.cell? ⟨g,1,none⟩=some (.string p1)→W.cell? ⟨g,2,none⟩=some (.string p2)→W.cell? ⟨g,3,none⟩=some (.string p3)→CR 129 #[.slice (some ⟨g,0,none⟩) 4 4] W (.agg #[.string lo,.string hi])) :
 CR 86 #[.agg #[.string l1,.string h1],.agg #[.string l2,.string h2],.func (.func 69) #[] #[]] w (.agg #[.string lo,.string hi]):=by
 obtain ⟨C0,C1,C2,C3,C4⟩:=bz g0 g1 g2 g3 g4;have ix0:∀ W:World,(Instr.index 147 (.agg #[.string l1,.string h1]) (.int .i64 0)).run Tryz.prog W=.ok (.string l1) W:=fun _=>by kernel_rfl
 have ix1:∀ W:World,(Instr.index 147 (.agg #[.string l1,.string h1]) (.int .i64 1)).run Tryz.prog W=.ok (.string h1) W:=fun _=>by kernel_rfl
 have HL:=hid (show ∀ W:World,Below w.heap.size w W→La W from fun W h=>hl.on h);have M0:=hid (Cb.start w l1 h1 l2 h2);have wm:IntKind.i64.wrap (2*0)=0:=by decide
 have wm1:IntKind.i64.wrap (2*1)=2:=by decide
 have wp1:IntKind.i64.wrap (0+1)=1:=by decide
 have wp2:IntKind.i64.wrap (2+1)=3:=by decide
 have wp3:IntKind.i64.wrap (1+1)=2:=by decide
 obtain⟨w0,hw0⟩:∃ w0:World,w0=((((w.alloc (.cells #[.string l1,.string h1] 25)).alloc (.cells #[.string l2,.string h2] 25)).alloc (.cells #[.string ⟨#[]⟩,.string ⟨#[]⟩] 25)).alloc (.cells #[.string ⟨#[]⟩,.string ⟨#[]⟩,.string ⟨#[]⟩,.string ⟨#[]⟩] 146)):=⟨_,rfl⟩;rw[← hw0]at M0;have HW0:=hid hw0;clear hw0 hl g0 g1 g2 g3 g4;go_enter Tryz.func86,Tryz.ntmps86
 go_upto_region 2 with fail
 rw[← HW0.o];obtain⟨⟨a0,a1⟩,⟨b0,b1⟩,⟨r0,r1,r2,r3⟩,⟨c0,c1,c2,c3⟩,⟨d0,d1,d2,d3⟩⟩:=M0.o.facts;have kz:=M0.o.2.1;go_wp2_with fail
 refine wp_loop_rounds 3 ?_;rw[rounds_succ];go_wp2_with fail
 refine(C0.o _ (HL.o _ M0.o.1)).mono ?_;rintro e w1 ⟨rfl,hb⟩;have M1:=hid (M0.o.call hb);clear hb a0 a1 b0 b1 r0 r1 r2 r3 c0 c1 c2 c3 d0 d1 d2 d3 kz;obtain⟨⟨a0,a1⟩,⟨b0,b1⟩,⟨r0,r1,r2,r3⟩,⟨c0,c1,c2,c3⟩,⟨d0,d1,d2,d3⟩⟩:=M1.o.facts;have kz:=M1.o.2.1;go_upto_region 6 with fail
 obtain⟨w2,hw⟩:∃ w2:World,w2=w1.setCell ⟨w.heap.size+1+1+1,0,none⟩ (.string p0):=⟨_,rfl⟩;rw[← hw];have M2:=M1.o.store 0 (by decide) p0;rw[show w1.setCell ⟨w.heap.size+3,0,none⟩ (.string p0)=w2 from hw.symm]at M2;have M2:=hid M2;clear hw a0 a1 b0 b1 r0 r1 r2 r3 c0 c1 c2 c3 d0 d1 d2 d3 kz;obtain⟨⟨a0,a1⟩,⟨b0,b1⟩,⟨r0,r1,r2,r3⟩,⟨c0,c1,c2,c3⟩,⟨d0,d1,d2,d3⟩⟩:=M2.o.facts;have kz:=M2.o.2.1;go_wp2_with fail
 refine(C1.o _ (HL.o _ M2.o.1)).mono ?_;rintro e w3 ⟨rfl,hb⟩;have M3:=hid (M2.o.call hb);clear hb a0 a1 b0 b1 r0 r1 r2 r3 c0 c1 c2 c3 d0 d1 d2 d3 kz;obtain⟨⟨a0,a1⟩,⟨b0,b1⟩,⟨r0,r1,r2,r3⟩,⟨c0,c1,c2,c3⟩,⟨d0,d1,d2,d3⟩⟩:=M3.o.facts;have kz:=M3.o.2.1;go_upto_region 7 with fail
 obtain⟨w4,hw⟩:∃ w4:World,w4=w3.setCell ⟨w.heap.size+1+1+1,1,none⟩ (.string p1):=⟨_,rfl⟩;rw[← hw];have M4:=M3.o.store 1 (by decide) p1;rw[show w3.setCell ⟨w.heap.size+3,1,none⟩ (.string p1)=w4 from hw.symm]at M4;have M4:=hid M4;clear hw a0 a1 b0 b1 r0 r1 r2 r3 c0 c1 c2 c3 d0 d1 d2 d3 kz;obtain⟨⟨a0,a1⟩,⟨b0,b1⟩,⟨r0,r1,r2,r3⟩,⟨c0,c1,c2,c3⟩,⟨d0,d1,d2,d3⟩⟩:=M4.o.facts;have kz:=M4.o.2.1;go_wp2_with fail
 rw[rounds_succ];go_wp2_with fail
 refine(C2.o _ (HL.o _ M4.o.1)).mono ?_;rintro e w5 ⟨rfl,hb⟩;have M5:=hid (M4.o.call hb);clear hb a0 a1 b0 b1 r0 r1 r2 r3 c0 c1 c2 c3 d0 d1 d2 d3 kz;obtain⟨⟨a0,a1⟩,⟨b0,b1⟩,⟨r0,r1,r2,r3⟩,⟨c0,c1,c2,c3⟩,⟨d0,d1,d2,d3⟩⟩:=M5.o.facts;have kz:=M5.o.2.1;go_upto_region 6 with fail
 obtain⟨w6,hw⟩:∃ w6:World,w6=w5.setCell ⟨w.heap.size+1+1+1,2,none⟩ (.string p2):=⟨_,rfl⟩;rw[← hw];have M6:=M5.o.store 2 (by decide) p2;rw[show w5.setCell ⟨w.heap.size+3,2,none⟩ (.string p2)=w6 from hw.symm]at M6;have M6:=hid M6;clear hw a0 a1 b0 b1 r0 r1 r2 r3 c0 c1 c2 c3 d0 d1 d2 d3 kz;obtain⟨⟨a0,a1⟩,⟨b0,b1⟩,⟨r0,r1,r2,r3⟩,⟨c0,c1,c2,c3⟩,⟨d0,d1,d2,d3⟩⟩:=M6.o.facts;have kz:=M6.o.2.1;go_wp2_with fail
 refine(C3.o _ (HL.o _ M6.o.1)).mono ?_;rintro e w7 ⟨rfl,hb⟩;have M7:=hid (M6.o.call hb);clear hb a0 a1 b0 b1 r0 r1 r2 r3 c0 c1 c2 c3 d0 d1 d2 d3 kz;obtain⟨⟨a0,a1⟩,⟨b0,b1⟩,⟨r0,r1,r2,r3⟩,⟨c0,c1,c2,c3⟩,⟨d0,d1,d2,d3⟩⟩:=M7.o.facts;have kz:=M7.o.2.1;go_upto_region 7 with fail
 obtain⟨w8,hw⟩:∃ w8:World,w8=w7.setCell ⟨w.heap.size+1+1+1,3,none⟩ (.string p3):=⟨_,rfl⟩;rw[← hw];have M8:=M7.o.store 3 (by decide) p3;rw[show w7.setCell ⟨w.heap.size+3,3,none⟩ (.string p3)=w8 from hw.symm]at M8;have M8:=hid M8;clear hw a0 a1 b0 b1 r0 r1 r2 r3 c0 c1 c2 c3 d0 d1 d2 d3 kz;obtain⟨⟨a0,a1⟩,⟨b0,b1⟩,⟨r0,r1,r2,r3⟩,⟨c0,c1,c2,c3⟩,⟨d0,d1,d2,d3⟩⟩:=M8.o.facts;have kz:=M8.o.2.1;go_wp2_with fail
 rw[rounds_succ];go_wp2_with fail
 refine(C4.o w8 (w.heap.size+1+1+1) (HL.o _ M8.o.1) (by omega) (M8.o.2.2.2 0 (by decide)).1 (M8.o.2.2.2 1 (by decide)).1 (M8.o.2.2.2 2 (by decide)).1 (M8.o.2.2.2 3 (by decide)).1).mono ?_;rintro e w9 ⟨rfl,hb⟩;have M9:=hid (M8.o.call hb);clear hb a0 a1 b0 b1 r0 r1 r2 r3 c0 c1 c2 c3 d0 d1 d2 d3 kz;obtain⟨⟨a0,a1⟩,⟨b0,b1⟩,⟨r0,r1,r2,r3⟩,⟨c0,c1,c2,c3⟩,⟨d0,d1,d2,d3⟩⟩:=M9.o.facts;have kz:=M9.o.2.1;go_wp2;refine bodyPost_ret (v:=.agg #[.string lo,.string hi]) (by simp[results,Tryz.results86,go_sem,r0,r1]) rfl ⟨rfl,?_⟩;exact(M9.o.1.setCell (p:=⟨w.heap.size+1+1,0,none⟩) (by show w.heap.size≤w.heap.size+1+1;omega) _).setCell (p:=⟨w.heap.size+1+1,1,none⟩) (by show w.heap.size≤w.heap.size+1+1;omega) _
theorem p9 (l1 h1 l2 h2 p0 p1 p2 p3 lo hi:ByteArray)(w:World)(hl:La w)
 (g0:CL 34 #[.string l1,.string l2] (.tuple #[.string p0,.int .i64 0]))
 (g1:CL 34 #[.string l1,.string h2] (.tuple #[.string p1,.int .i64 0]))
 (g2:CL 34 #[.string h1,.string l2] (.tuple #[.string p2,.int .i64 0]))
 (g3:CL 34 #[.string h1,.string h2] (.tuple #[.string p3,.int .i64 0]))
 (g4:∀ W g,La W→g<W.heap.size→W.cell? ⟨g,0,none⟩=some (.string p0)→W.cell? ⟨g,1,none⟩=some (.string p1)→W.cell? ⟨g,2,none⟩=some (.string p2)→W.cell? ⟨g,3,none⟩=some (.string p3)→CR 129 #[.slice (some ⟨g,0,none⟩) 4 4] W (.agg #[.string lo,.string hi])) :
 CR 86 #[.agg #[.string l1,.string h1],.agg #[.string l2,.string h2],.func (.func 34) #[] #[]] w (.agg #[.string lo,.string hi]):=by
 obtain ⟨C0,C1,C2,C3,C4⟩:=bz g0 g1 g2 g3 g4;have ix0:∀ W:World,(Instr.index 147 (.agg #[.string l1,.string h1]) (.int .i64 0)).run Tryz.prog W=.ok (.string l1) W:=fun _=>by kernel_rfl
 have ix1:∀ W:World,(Instr.index 147 (.agg #[.string l1,.string h1]) (.int .i64 1)).run Tryz.prog W=.ok (.string h1) W:=fun _=>by kernel_rfl
 have HL:=hid (show ∀ W:World,Below w.heap.size w W→La W from fun W h=>hl.on h);have M0:=hid (Cb.start w l1 h1 l2 h2);have wm:IntKind.i64.wrap (2*0)=0:=by decide
 have wm1:IntKind.i64.wrap (2*1)=2:=by decide
 have wp1:IntKind.i64.wrap (0+1)=1:=by decide
 have wp2:IntKind.i64.wrap (2+1)=3:=by decide
 have wp3:IntKind.i64.wrap (1+1)=2:=by decide
 obtain⟨w0,hw0⟩:∃ w0:World,w0=((((w.alloc (.cells #[.string l1,.string h1] 25)).alloc (.cells #[.string l2,.string h2] 25)).alloc (.cells #[.string ⟨#[]⟩,.string ⟨#[]⟩] 25)).alloc (.cells #[.string ⟨#[]⟩,.string ⟨#[]⟩,.string ⟨#[]⟩,.string ⟨#[]⟩] 146)):=⟨_,rfl⟩;rw[← hw0]at M0;have HW0:=hid hw0;clear hw0 hl g0 g1 g2 g3 g4;go_enter Tryz.func86,Tryz.ntmps86
 go_upto_region 2 with fail
 rw[← HW0.o];obtain⟨⟨a0,a1⟩,⟨b0,b1⟩,⟨r0,r1,r2,r3⟩,⟨c0,c1,c2,c3⟩,⟨d0,d1,d2,d3⟩⟩:=M0.o.facts;have kz:=M0.o.2.1;go_wp2_with fail
 refine wp_loop_rounds 3 ?_;rw[rounds_succ];go_wp2_with fail
 refine(C0.o _ (HL.o _ M0.o.1)).mono ?_;rintro e w1 ⟨rfl,hb⟩;have M1:=hid (M0.o.call hb);clear hb a0 a1 b0 b1 r0 r1 r2 r3 c0 c1 c2 c3 d0 d1 d2 d3 kz;obtain⟨⟨a0,a1⟩,⟨b0,b1⟩,⟨r0,r1,r2,r3⟩,⟨c0,c1,c2,c3⟩,⟨d0,d1,d2,d3⟩⟩:=M1.o.facts;have kz:=M1.o.2.1;go_upto_region 6 with fail
 obtain⟨w2,hw⟩:∃ w2:World,w2=w1.setCell ⟨w.heap.size+1+1+1,0,none⟩ (.string p0):=⟨_,rfl⟩;rw[← hw];have M2:=M1.o.store 0 (by decide) p0;rw[show w1.setCell ⟨w.heap.size+3,0,none⟩ (.string p0)=w2 from hw.symm]at M2;have M2:=hid M2;clear hw a0 a1 b0 b1 r0 r1 r2 r3 c0 c1 c2 c3 d0 d1 d2 d3 kz;obtain⟨⟨a0,a1⟩,⟨b0,b1⟩,⟨r0,r1,r2,r3⟩,⟨c0,c1,c2,c3⟩,⟨d0,d1,d2,d3⟩⟩:=M2.o.facts;have kz:=M2.o.2.1;go_wp2_with fail
 refine(C1.o _ (HL.o _ M2.o.1)).mono ?_;rintro e w3 ⟨rfl,hb⟩;have M3:=hid (M2.o.call hb);clear hb a0 a1 b0 b1 r0 r1 r2 r3 c0 c1 c2 c3 d0 d1 d2 d3 kz;obtain⟨⟨a0,a1⟩,⟨b0,b1⟩,⟨r0,r1,r2,r3⟩,⟨c0,c1,c2,c3⟩,⟨d0,d1,d2,d3⟩⟩:=M3.o.facts;have kz:=M3.o.2.1;go_upto_region 7 with fail
 obtain⟨w4,hw⟩:∃ w4:World,w4=w3.setCell ⟨w.heap.size+1+1+1,1,none⟩ (.string p1):=⟨_,rfl⟩;rw[← hw];have M4:=M3.o.store 1 (by decide) p1;rw[show w3.setCell ⟨w.heap.size+3,1,none⟩ (.string p1)=w4 from hw.symm]at M4;have M4:=hid M4;clear hw a0 a1 b0 b1 r0 r1 r2 r3 c0 c1 c2 c3 d0 d1 d2 d3 kz;obtain⟨⟨a0,a1⟩,⟨b0,b1⟩,⟨r0,r1,r2,r3⟩,⟨c0,c1,c2,c3⟩,⟨d0,d1,d2,d3⟩⟩:=M4.o.facts;have kz:=M4.o.2.1;go_wp2_with fail
 rw[rounds_succ];go_wp2_with fail
 refine(C2.o _ (HL.o _ M4.o.1)).mono ?_;rintro e w5 ⟨rfl,hb⟩;have M5:=hid (M4.o.call hb);clear hb a0 a1 b0 b1 r0 r1 r2 r3 c0 c1 c2 c3 d0 d1 d2 d3 kz;obtain⟨⟨a0,a1⟩,⟨b0,b1⟩,⟨r0,r1,r2,r3⟩,⟨c0,c1,c2,c3⟩,⟨d0,d1,d2,d3⟩⟩:=M5.o.facts;have kz:=M5.o.2.1;go_upto_region 6 with fail
 obtain⟨w6,hw⟩:∃ w6:World,w6=w5.setCell ⟨w.heap.size+1+1+1,2,none⟩ (.string p2):=⟨_,rfl⟩;rw[← hw];have M6:=M5.o.store 2 (by decide) p2;rw[show w5.setCell ⟨w.heap.size+3,2,none⟩ (.string p2)=w6 from hw.symm]at M6;have M6:=hid M6;clear hw a0 a1 b0 b1 r0 r1 r2 r3 c0 c1 c2 c3 d0 d1 d2 d3 kz;obtain⟨⟨a0,a1⟩,⟨b0,b1⟩,⟨r0,r1,r2,r3⟩,⟨c0,c1,c2,c3⟩,⟨d0,d1,d2,d3⟩⟩:=M6.o.facts;have kz:=M6.o.2.1;go_wp2_with fail
 refine(C3.o _ (HL.o _ M6.o.1)).mono ?_;rintro e w7 ⟨rfl,hb⟩;have M7:=hid (M6.o.call hb);clear hb a0 a1 b0 b1 r0 r1 r2 r3 c0 c1 c2 c3 d0 d1 d2 d3 kz;obtain⟨⟨a0,a1⟩,⟨b0,b1⟩,⟨r0,r1,r2,r3⟩,⟨c0,c1,c2,c3⟩,⟨d0,d1,d2,d3⟩⟩:=M7.o.facts;have kz:=M7.o.2.1;go_upto_region 7 with fail
 obtain⟨w8,hw⟩:∃ w8:World,w8=w7.setCell ⟨w.heap.size+1+1+1,3,none⟩ (.string p3):=⟨_,rfl⟩;rw[← hw];have M8:=M7.o.store 3 (by decide) p3;rw[show w7.setCell ⟨w.heap.size+3,3,none⟩ (.string p3)=w8 from hw.symm]at M8;have M8:=hid M8;clear hw a0 a1 b0 b1 r0 r1 r2 r3 c0 c1 c2 c3 d0 d1 d2 d3 kz;obtain⟨⟨a0,a1⟩,⟨b0,b1⟩,⟨r0,r1,r2,r3⟩,⟨c0,c1,c2,c3⟩,⟨d0,d1,d2,d3⟩⟩:=M8.o.facts;have kz:=M8.o.2.1;go_wp2_with fail
 rw[rounds_succ];go_wp2_with fail
 refine(C4.o w8 (w.heap.size+1+1+1) (HL.o _ M8.o.1) (by omega) (M8.o.2.2.2 0 (by decide)).1 (M8.o.2.2.2 1 (by decide)).1 (M8.o.2.2.2 2 (by decide)).1 (M8.o.2.2.2 3 (by decide)).1).mono ?_;rintro e w9 ⟨rfl,hb⟩;have M9:=hid (M8.o.call hb);clear hb a0 a1 b0 b1 r0 r1 r2 r3 c0 c1 c2 c3 d0 d1 d2 d3 kz;obtain⟨⟨a0,a1⟩,⟨b0,b1⟩,⟨r0,r1,r2,r3⟩,⟨c0,c1,c2,c3⟩,⟨d0,d1,d2,d3⟩⟩:=M9.o.facts;have kz:=M9.o.2.1;go_wp2;refine bodyPost_ret (v:=.agg #[.string lo,.string hi]) (by simp[results,Tryz.results86,go_sem,r0,r1]) rfl ⟨rfl,?_⟩;exact(M9.o.1.setCell (p:=⟨w.heap.size+1+1,0,none⟩) (by show w.heap.size≤w.heap.size+1+1;omega) _).setCell (p:=⟨w.heap.size+1+1,1,none⟩) (by show w.heap.size≤w.heap.size+1+1;omega) _
