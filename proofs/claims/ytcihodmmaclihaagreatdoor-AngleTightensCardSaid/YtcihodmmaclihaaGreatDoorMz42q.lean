/- Texts of this proof, one behind the other. -/
import Derived.Test.YtcihodmmaclihaaGreatDoorVj
namespace Go.Proofs.YtcihodmmaclihaaGreatDoor
open Go.RowKit Go.Gb
theorem exStep_le (p:Rat × Rat)(x:Rat):(exStep p x).1≤p.1∧p.2≤(exStep p x).2:=by
 unfold exStep
 split
 · constructor<;>grind
 · split
   · constructor<;>grind
   · constructor<;>grind
theorem exStep_in (p:Rat × Rat)(x:Rat)(h:p.1≤p.2):(exStep p x).1≤x∧x≤(exStep p x).2:=by
 unfold exStep
 split
 · constructor<;>grind
 · split
   · constructor<;>grind
   · constructor<;>grind
theorem exOf_order (q:Nat→Rat):∀ n,(exOf q n).1≤(exOf q n).2
 | 0=>Rat.le_refl
 | n+1=>by
   have h:=exOf_order q n
   have h2:=exStep_in (exOf q n) (q (n+1)) h
   show(exStep (exOf q n) (q (n+1))).1≤(exStep (exOf q n) (q (n+1))).2
   grind
theorem exOf_in (q:Nat→Rat):∀ n i,i≤n→(exOf q n).1≤q i∧q i≤(exOf q n).2
 | 0,i,h=>by
   obtain rfl:i=0:=by omega
   exact⟨Rat.le_refl,Rat.le_refl⟩
 | n+1,i,h=>by
   have h1:=exStep_le (exOf q n) (q (n+1))
   have h2:=exStep_in (exOf q n) (q (n+1)) (exOf_order q n)
   by_cases hi:i=n+1
   · subst hi;exact h2
   · have h3:=exOf_in q n i (by omega)
     exact⟨Rat.le_trans h1.1 h3.1,Rat.le_trans h3.2 h1.2⟩
theorem exOf_one (q:Nat→Rat):∀ n,(∃ i,i≤n∧(exOf q n).1=q i)∧(∃ i,i≤n∧(exOf q n).2=q i)
 | 0=>⟨⟨0,Nat.le_refl _,rfl⟩,⟨0,Nat.le_refl _,rfl⟩⟩
 | n+1=>by
   obtain⟨⟨i,hi,h1⟩,⟨j,hj,h2⟩⟩:=exOf_one q n
   show(∃ i,i≤n+1∧(exStep (exOf q n) (q (n+1))).1=q i)∧(∃ i,i≤n+1∧(exStep (exOf q n) (q (n+1))).2=q i)
   unfold exStep
   split
   · exact⟨⟨n+1,Nat.le_refl _,rfl⟩,⟨j,by omega,h2⟩⟩
   · split
     · exact⟨⟨i,by omega,h1⟩,⟨n+1,Nat.le_refl _,rfl⟩⟩
     · exact⟨⟨i,by omega,h1⟩,⟨j,by omega,h2⟩⟩
theorem row4_in (p0 p1 p2 p3:Rat):((exOf (row4 p0 p1 p2 p3) 3).1≤p0∧(exOf (row4 p0 p1 p2 p3) 3).1≤p1∧(exOf (row4 p0 p1 p2 p3) 3).1≤p2∧(exOf (row4 p0 p1 p2 p3) 3).1≤p3)∧(p0≤(exOf (row4 p0 p1 p2 p3) 3).2∧p1≤(exOf (row4 p0 p1 p2 p3) 3).2∧p2≤(exOf (row4 p0 p1 p2 p3) 3).2∧p3≤(exOf (row4 p0 p1 p2 p3) 3).2):=by
 have h:=exOf_in (row4 p0 p1 p2 p3) 3
 exact⟨⟨(h 0 (by decide)).1,(h 1 (by decide)).1,(h 2 (by decide)).1,(h 3 (by decide)).1⟩,⟨(h 0 (by decide)).2,(h 1 (by decide)).2,(h 2 (by decide)).2,(h 3 (by decide)).2⟩⟩
theorem row4_one (p0 p1 p2 p3:Rat):((exOf (row4 p0 p1 p2 p3) 3).1=p0∨(exOf (row4 p0 p1 p2 p3) 3).1=p1∨(exOf (row4 p0 p1 p2 p3) 3).1=p2∨(exOf (row4 p0 p1 p2 p3) 3).1=p3)∧((exOf (row4 p0 p1 p2 p3) 3).2=p0∨(exOf (row4 p0 p1 p2 p3) 3).2=p1∨(exOf (row4 p0 p1 p2 p3) 3).2=p2∨(exOf (row4 p0 p1 p2 p3) 3).2=p3):=by
 obtain⟨⟨i,hi,e⟩,⟨j,hj,f⟩⟩:=exOf_one (row4 p0 p1 p2 p3) 3
 rw[e,f]
 constructor
 · match i,hi with
   | 0,_=>exact Or.inl rfl
   | 1,_=>exact Or.inr (Or.inl rfl)
   | 2,_=>exact Or.inr (Or.inr (Or.inl rfl))
   | 3,_=>exact Or.inr (Or.inr (Or.inr rfl))
 · match j,hj with
   | 0,_=>exact Or.inl rfl
   | 1,_=>exact Or.inr (Or.inl rfl)
   | 2,_=>exact Or.inr (Or.inr (Or.inl rfl))
   | 3,_=>exact Or.inr (Or.inr (Or.inr rfl))
theorem lin_le {a b x t l:Rat}(h1:a≤x)(h2:x≤b)(ha:l≤a*t)(hb:l≤b*t):l≤x*t:=by
 by_cases ht:0≤t
 · have:=Rat.mul_nonneg (show 0≤x-a by grind) ht
   grind
 · have:=Rat.mul_nonneg (show 0≤b-x by grind) (show 0 ≤ -t by grind)
   grind
theorem lin_ge {a b x t l:Rat}(h1:a≤x)(h2:x≤b)(ha:a*t≤l)(hb:b*t≤l):x*t≤l:=by
 by_cases ht:0≤t
 · have:=Rat.mul_nonneg (show 0≤b-x by grind) ht
   grind
 · have:=Rat.mul_nonneg (show 0≤x-a by grind) (show 0 ≤ -t by grind)
   grind
theorem bil_le {a b c d x y l:Rat}(h1:a≤x)(h2:x≤b)(h3:c≤y)(h4:y≤d)(k0:l≤a*c)(k1:l≤a*d)(k2:l≤b*c)(k3:l≤b*d):l≤x*y:=by
 have m0:l≤x*c:=lin_le h1 h2 k0 k2
 have m1:l≤x*d:=lin_le h1 h2 k1 k3
 rw[Rat.mul_comm]at m0 m1
 have:=lin_le (t:=x) h3 h4 m0 m1
 rwa [Rat.mul_comm]at this
theorem bil_ge {a b c d x y l:Rat}(h1:a≤x)(h2:x≤b)(h3:c≤y)(h4:y≤d)(k0:a*c≤l)(k1:a*d≤l)(k2:b*c≤l)(k3:b*d≤l):x*y≤l:=by
 have m0:x*c≤l:=lin_ge h1 h2 k0 k2
 have m1:x*d≤l:=lin_ge h1 h2 k1 k3
 rw[Rat.mul_comm]at m0 m1
 have:=lin_ge (t:=x) h3 h4 m0 m1
 rwa [Rat.mul_comm]at this
theorem mul_in {a b c d x y:Rat}(h1:a≤x)(h2:x≤b)(h3:c≤y)(h4:y≤d):(exOf (row4 (a*c) (a*d) (b*c) (b*d)) 3).1≤x*y∧x*y≤(exOf (row4 (a*c) (a*d) (b*c) (b*d)) 3).2:=by
 obtain⟨⟨k0,k1,k2,k3⟩,⟨l0,l1,l2,l3⟩⟩:=row4_in (a*c) (a*d) (b*c) (b*d)
 exact⟨bil_le h1 h2 h3 h4 k0 k1 k2 k3,bil_ge h1 h2 h3 h4 l0 l1 l2 l3⟩
theorem row2_in (p0 p1:Rat):((exOf (row2 p0 p1) 1).1≤p0∧(exOf (row2 p0 p1) 1).1≤p1)∧(p0≤(exOf (row2 p0 p1) 1).2∧p1≤(exOf (row2 p0 p1) 1).2):=by
 have h:=exOf_in (row2 p0 p1) 1
 exact⟨⟨(h 0 (by decide)).1,(h 1 (by decide)).1⟩,⟨(h 0 (by decide)).2,(h 1 (by decide)).2⟩⟩
theorem row2_one (p0 p1:Rat):((exOf (row2 p0 p1) 1).1=p0∨(exOf (row2 p0 p1) 1).1=p1)∧((exOf (row2 p0 p1) 1).2=p0∨(exOf (row2 p0 p1) 1).2=p1):=by
 obtain⟨⟨i,hi,e⟩,⟨j,hj,f⟩⟩:=exOf_one (row2 p0 p1) 1
 rw[e,f]
 constructor
 · match i,hi with
   | 0,_=>exact Or.inl rfl
   | 1,_=>exact Or.inr rfl
 · match j,hj with
   | 0,_=>exact Or.inl rfl
   | 1,_=>exact Or.inr rfl
open Go.RowKit Go.Gb
def Iv (g:Nat) (x y:ByteArray) (W:World):Prop:=g<W.heap.size∧W.cell? ⟨g,0,none⟩=some (.string x)∧W.cell? ⟨g,1,none⟩=some (.string y)
theorem Iv.mono {g:Nat}{x y:ByteArray}{W W':World}(h:Iv g x y W)(hb:Below W.heap.size W W'):Iv g x y W' :=
 ⟨Nat.lt_of_lt_of_le h.1 hb.size,(hb.cell (p:=⟨g,0,none⟩) h.1).trans h.2.1,(hb.cell (p:=⟨g,1,none⟩) h.1).trans h.2.2⟩
theorem below_alloc (W:World)(o:Obj):Below W.heap.size W (W.alloc o):=(Below.refl W.heap.size W).alloc (Nat.le_refl _) o
theorem iv_box (W:World)(x y:ByteArray):Iv W.heap.size x y (W.alloc (.cells #[.string x,.string y] 26)) :=
 ⟨by simp,(q_new rfl).trans rfl,(q_new rfl).trans rfl⟩theorem iv_boxg {W:World} {g:Nat} (hg:g=W.heap.size) (x y:ByteArray):Iv g x y (W.alloc (.cells #[.string x,.string y] 26)):=by subst hg;exact iv_box W x y
end Go.Proofs.YtcihodmmaclihaaGreatDoor
set_option maxRecDepth 100000
set_option maxHeartbeats 20000000
open Go.Lib (hid)
namespace Go.Proofs.YtcihodmmaclihaaGreatDoor
open Go.RowKit Go.Gb
def hcells (q:Nat→Rat) (m:Nat):List Value:=(List.range m).map fun j => .string (Sq (q j))
theorem hcells_two (q:Nat→Rat)(i:Nat):hcells q (2*i)++[.string (Sq (q (2*i))),.string (Sq (q (2*i+1)))]=hcells q (2*i+2):=by
 unfold hcells
 rw[List.range_succ,List.range_succ]
 simp
theorem hcells_get (q:Nat→Rat){m i:Nat}(h:i<m):(hcells q m)[i]? = some (.string (Sq (q i))):=by
 unfold hcells
 simp[h]
theorem own_read {W:World}{base n:Nat}{e:TypeId}{v:Value}{xs:List Value}(h:W.ownsRow base e 1 v n xs)(hn:0<n) :
 ∃ g cap,v=.slice (some ⟨g,0,none⟩) n cap∧base≤g∧g<W.heap.size∧n≤cap∧∀ i x,xs[i]? = some x→W.cell? ⟨g,i,none⟩=some x:=by
 obtain⟨h1,h2⟩:=h
 rcases h2 with⟨h2,h3⟩|⟨g,cap,cur,hv,hg,hh,hn2,hc,hs,ht⟩
 · omega
 · refine⟨g,cap,hv,hg,(Array.getElem?_eq_some_iff.1 hh).1,hn2,fun i x hx=>?_⟩
   have hi:i<n:=by
    have:=(List.getElem?_eq_some_iff.1 hx).1
    omega
   rw[← ht,Nat.mul_one,List.getElem?_take,if_pos hi]at hx
   simp only[World.cell?,hh]
   simpa using hx
theorem own_below {W W':World}{base n:Nat}{e:TypeId}{v:Value}{xs:List Value}(h:W.ownsRow base e 1 v n xs)(hb:Below W.heap.size W W'):W'.ownsRow base e 1 v n xs:=by
 obtain⟨h1,h2⟩:=h
 refine⟨h1,?_⟩
 rcases h2 with h2|⟨g,cap,cur,hv,hg,hh,r⟩
 · exact Or.inl h2
 · exact Or.inr ⟨g,cap,cur,hv,hg,by rw[hb.block g (Array.getElem?_eq_some_iff.1 hh).1];exact hh,r⟩
theorem cells_two (w:World)(u v:Value)(T:TypeId):∀ j x,[u,v][j]? = some x→(w.alloc (.cells #[u,v] T)).cell? ((⟨w.heap.size,0,none⟩:Addr).add j)=some x:=by
 intro j x hj
 match j,hj with
 | 0,hj=>simp at hj;subst hj;simp[Addr.add]
 | 1,hj=>simp at hj;subst hj;simp[Addr.add]
theorem rat_info:∃ i0:TypeInfo,Tryz.prog.info? 22=some i0∧i0.zero=some (.string ⟨#[]⟩)∧i0.size=1∧i0.bytes=16:=by
 have h1:(Tryz.prog.info? 22).map (fun i=>i.zero)=some (some (.string ⟨#[]⟩)):=by kernel_rfl
 have h2:(Tryz.prog.info? 22).map (fun i=>i.size)=some 1:=by kernel_rfl
 have h3:(Tryz.prog.info? 22).map (fun i=>i.bytes)=some 16:=by kernel_rfl
 cases h:Tryz.prog.info? 22 with
 | none=>rw[h]at h1;cases h1
 | some i =>
   rw[h]at h1 h2 h3
   exact⟨i,rfl,by simpa using h1,by simpa using h2,by simpa using h3⟩
theorem hull_any (g n c:Nat)(q:Nat→Rat)(hn1:1≤n)(hn2:n≤1024)(hnc:n≤c)(w:World)(hl:La w)(hg:g<w.heap.size)
 (hq:∀ i,i<2*n→FitQ (q i)) (hv:∀ i,i<n→q (2*i)≤q (2*i+1)) (hcell:∀ i,i<2*n→w.cell? ⟨g,i,none⟩=some (.string (Sq (q i)))) :
 CR 57 #[.slice (some ⟨g,0,none⟩) n c] w (.tuple #[Vq (exOf q (2*n-1)).1 (exOf q (2*n-1)).2,.int .i64 0]):=by
 obtain⟨i0,hi,hz0,hz1,hz2⟩:=rat_info
 obtain⟨w0,hw0⟩:∃ w0:World,w0=w.alloc (.cells #[.string ⟨#[]⟩,.string ⟨#[]⟩] 26):=⟨_,rfl⟩
 have hs0:w0.heap.size=w.heap.size+1:=by rw[hw0];simp
 have hb0:Below w.heap.size w w0:=by rw[hw0];exact below_alloc w _
 have hr0:w0.cell? ⟨w.heap.size,0,none⟩=some (.string ⟨#[]⟩)∧w0.cell? ⟨w.heap.size,1,none⟩=some (.string ⟨#[]⟩)∧w0.frozen? ⟨w.heap.size,0,none⟩=false∧w0.frozen? ⟨w.heap.size,1,none⟩=false:=by
  rw[hw0];exact⟨(q_new rfl).trans rfl,(q_new rfl).trans rfl,fq_new rfl,fq_new rfl⟩
 have HQ:=hid hq
 have HV:=hid hv
 have KB:=hid (show ∀ W:World,Below w0.heap.size w0 W→Below w.heap.size w W from fun W hB=>hb0.trans (hB.mono (by omega)))
 have HC:=hid (show ∀ W:World,Below w0.heap.size w0 W→∀ i,i<2*n→W.cell? ⟨g,i,none⟩=some (.string (Sq (q i))) from fun W hB i hi'=>((KB.out W hB).cell (p:=⟨g,i,none⟩) hg).trans (hcell i hi'))
 have KR:=hid (show ∀ W:World,Below w0.heap.size w0 W→(W.cell? ⟨w.heap.size,0,none⟩=some (.string ⟨#[]⟩)∧W.cell? ⟨w.heap.size,1,none⟩=some (.string ⟨#[]⟩)∧W.frozen? ⟨w.heap.size,0,none⟩=false∧W.frozen? ⟨w.heap.size,1,none⟩=false) from fun W hB=>by
  obtain⟨c0,c1,f0,f1⟩:=hr0
  exact⟨(hB.cell (p:=⟨w.heap.size,0,none⟩) (by show w.heap.size<_;omega)).trans c0,(hB.cell (p:=⟨w.heap.size,1,none⟩) (by show w.heap.size<_;omega)).trans c1,(hB.frozen (p:=⟨w.heap.size,0,none⟩) (by show w.heap.size<_;omega)).trans f0,(hB.frozen (p:=⟨w.heap.size,1,none⟩) (by show w.heap.size<_;omega)).trans f1⟩)
 have HL:=hid (show ∀ W:World,Below w0.heap.size w0 W→La W from fun W hB=>hl.on (KB.out W hB))
 have KZ:=hid (show ∀ W:World,Below w0.heap.size w0 W→w.heap.size+1≤W.heap.size from fun W hB=>by have:=hB.size;omega)
 have F0:=hid (Below.refl w0.heap.size w0)
 have HS:=hid hs0
 have HW0:=hid hw0
 have ne0:¬ (n:Int)=0:=by omega
 have ne1:¬ (1024:Int)<(n:Int):=by omega
 have nc:(n:Int)≤(c:Int):=by omega
 clear hq hv hcell hb0 hr0 hl hs0 hw0
 go_enter Tryz.func57,Tryz.ntmps57
 go_wp2
 rw[← HW0.out]
 go_loopw [4,6,17] (fun v _ ii wr=>∃ (i:Nat),i≤n∧ii=.int .i64 (i:Int)∧Hid (wr.ownsRow w0.heap.size 22 1 v (2*i) (hcells q (2*i)))∧Hid (Below w0.heap.size w0 wr)) (fun _ _ ii _=>n-(intOf ii).toNat)
 case atStart=>exact⟨0,by omega,rfl,hid (World.ownsRow_nil w0 w0.heap.size 22 1),F0⟩
 case round =>
  obtain⟨i,hin,rfl,hO,hF⟩:=hrel
  have hi2:(i:Int)≤1024:=by omega
  have hi3:(0:Int)≤(i:Int):=by omega
  have wi:IntKind.i64.wrap ((i:Int)+1)=(i:Int)+1:=IntWalk.i64_in _ (by omega)
  by_cases hlt:i<n
  · have c0:wr.cell? ⟨g,i*2,none⟩=some (.string (Sq (q (2*i)))):=by rw[Nat.mul_comm];exact HC.out _ hF.out (2*i) (by omega)
    have c1:wr.cell? ⟨g,i*2+1,none⟩=some (.string (Sq (q (2*i+1)))):=by rw[Nat.mul_comm];exact HC.out _ hF.out (2*i+1) (by omega)
    have FX:=hid (HQ.out (2*i) (by omega))
    have FY:=hid (HQ.out (2*i+1) (by omega))
    have HXY:=hid (HV.out i hlt)
    have HNX:=hid (hcells_two q i)
    generalize q (2*i)=x at *
    generalize q (2*i+1)=y at *
    have hlt1:(i:Int)<(n:Int):=by omega
    have CV:=hid (fun W hW=>show CR 17 #[.agg #[.string (Sq x),.string (Sq y)]] W (.bool true) from iValid_yes x y HXY.out FX.out FY.out W hW)
    go_wp2_with fail
    have F1:=hid (hF.out.alloc hF.out.size (.cells #[.string (Sq x),.string (Sq y)] 26))
    have O1:=hid (hO.out.alloc (.cells #[.string (Sq x),.string (Sq y)] 26))
    refine(CV.out _ (HL.out _ F1.out)).mono ?_
    rintro e w1 ⟨rfl,hb⟩
    have V2:=hid ((iv_box wr (Sq x) (Sq y)).mono hb)
    have F2:=hid (fr_chain F1.out hb)
    have O2:=hid (own_below O1.out hb)
    clear hb c0 c1 F1 O1 CV
    obtain⟨_,c0,c1⟩:=V2.out
    go_wp2_with (at_builtin;refine wpList_append_own _ rfl _ _ 67 rfl w0.heap.size 22 i0 (.string ⟨#[]⟩) 1 16 Tryz.underlying67 hi hz0 hz1 hz2 rfl (by decide) _ (2*i) (hcells q (2*i)) rfl (O2.out.alloc _) ⟨w1.heap.size,0,none⟩ 2 2 [.string (Sq x),.string (Sq y)] rfl rfl (cells_two _ _ _ _) (by intro u hu;simp at hu;rcases hu with rfl|rfl<;>rfl) (by unfold maxLen;omega) (by omega) (by have:=F2.out.size;simp;omega) ?_)
    intro v' w2 hown hgrow _
    rw[HNX.out]at hown
    have F3:=hid ((F2.out.alloc F2.out.size _).grown hgrow (by have:=F2.out.size;simp;omega) (fun k hk=>(O2.out.lt k hk).1))
    have O3:=hid hown
    clear hown hgrow
    go_wp2
    go_roundw
    case rel=>exact⟨i+1,by omega,by go_num,O3,F3⟩
    case measure=>simp[intOf];omega
  · have hge:decide ((i:Int)<(n:Int))=false:=by rw[decide_eq_false_iff_not];omega
    obtain rfl:i=n:=by omega
    obtain⟨g1,cap,rfl,hg1,hg2,hcap,hcs⟩:=own_read hO.out (by omega)
    have CE:=hid (extremes_any g1 (2*i) cap q (by omega) (by omega) hcap wr (HL.out _ hF.out) hg2 HQ.out (fun j hj=>hcs j _ (hcells_get q hj)))
    clear hO hcs
    go_wp2_with fail
    refine CE.out.mono ?_
    rintro e w1 ⟨rfl,hb⟩
    have F1:=hid (fr_chain hF.out hb)
    clear hb
    obtain⟨m0,m1,n0,n1⟩:=KR.out _ F1.out
    go_wp2
    refine bodyPost_ret (v:=.tuple #[.agg #[.string (Sq (exOf q (2*i-1)).1),.string (Sq (exOf q (2*i-1)).2)],.int .i64 0]) (by simp[results,Tryz.results57,go_sem,m0,m1]) rfl ⟨rfl,?_⟩
    exact((KB.out _ F1.out).setCell (p:=⟨w.heap.size,0,none⟩) (Nat.le_refl _) _).setCell (p:=⟨w.heap.size,1,none⟩) (Nat.le_refl _) _
open Go.RowKit Go.Gb
theorem max_r {a c:Rat}(h:a≤c):(exOf (row2 a c) 1).2=c:=by
 have h1:=row2_in a c
 have h2:=row2_one a c
 grind
theorem min_r {a c:Rat}(h:c≤a):(exOf (row2 a c) 1).1=c:=by
 have h1:=row2_in a c
 have h2:=row2_one a c
 grind
theorem fit_row2 {p q:Rat}(hp:FitQ p)(hq:FitQ q):FitQ (exOf (row2 p q) 1).1∧FitQ (exOf (row2 p q) 1).2 :=
 exOf_fit (row2 p q) 1 (fun j hj=>match j,hj with
  | 0,_=>hp
  | 1,_=>hq)
theorem iMeet (a b c d p q:Rat)(hp:(exOf (row2 a c) 1).2=p)(hq:(exOf (row2 b d) 1).1=q)(h1:a≤b)(h2:c≤d)(h3:p≤q)(ha:FitQ a)(hb:FitQ b)(hc:FitQ c)(hd:FitQ d)(w:World)(hl:La w) :
 CR 10 #[Vq a b,Vq c d] w (.tuple #[Vq p q,.bool true]):=by
 have f1:=(fit_row2 ha hc).2
 have f2:=(fit_row2 hb hd).1
 rw[hp]at f1
 rw[hq]at f2
 refine iMeet_raw _ _ _ _ (Sq (exOf (row2 a c) 1).1) _ _ (Sq (exOf (row2 b d) 1).2) (cmpQ p q) (by
  have:=cmp_le h3
  rw[decide_eq_false_iff_not];omega) w hl (fun W hW=>iValid_yes a b h1 ha hb W hW) (fun W hW=>iValid_yes c d h2 hc hd W hW) (fun W g hW hg c0 c1=>?_) (fun W g hW hg c0 c1=>?_) (fun W hW=>iOrder p q _ rfl f1 f2 W hW)
 · have h:=ext2 a c ha hc W g hW hg c0 c1
   rwa [hp]at h
 · have h:=ext2 b d hb hd W g hW hg c0 c1
   rwa [hq]at h
open Go.RowKit Go.Gb
theorem xValid_yes (x y:Rat)(h:x≤y)(hx:FitQ x)(hy:FitQ y)(w:World)(hl:La w) :
 CR 17 #[.agg #[.string (Sq x),.string (Sq y)]] w (.bool true):=iValid_yes x y h hx hy w hl
theorem xHas (x y z:Rat)(r:Bool)(hr:decide (x≤z∧z≤y)=r)(h:x≤y)(hx:FitQ x)(hy:FitQ y)(hz:FitQ z)(w:World)(hl:La w) :
 CR 15 #[.agg #[.string (Sq x),.string (Sq y)],.string (Sq z)] w (.bool r):=iHas x y z r hr h hx hy hz w hl
theorem xSub (a b c d s t:Rat)(hs:a-d=s)(ht:b-c=t)(h1:a≤b)(h2:c≤d)(ha:FitQ a)(hb:FitQ b)(hc:FitQ c)(hd:FitQ d)(w:World)(hl:La w) :
 CR 13 #[.agg #[.string (Sq a),.string (Sq b)],.agg #[.string (Sq c),.string (Sq d)]] w (.tuple #[.agg #[.string (Sq s),.string (Sq t)],.int .i64 0]):=iSub a b c d s t hs ht h1 h2 ha hb hc hd w hl
theorem xMul (a b c d p0 p1 p2 p3:Rat)(e0:a*c=p0)(e1:a*d=p1)(e2:b*c=p2)(e3:b*d=p3)(h1:a≤b)(h2:c≤d)(ha:FitQ a)(hb:FitQ b)(hc:FitQ c)(hd:FitQ d)(f0:FitQ p0)(f1:FitQ p1)(f2:FitQ p2)(f3:FitQ p3)(w:World)(hl:La w) :
 CR 59 #[.agg #[.string (Sq a),.string (Sq b)],.agg #[.string (Sq c),.string (Sq d)]] w (.tuple #[.agg #[.string (Sq (exOf (row4 p0 p1 p2 p3) 3).1),.string (Sq (exOf (row4 p0 p1 p2 p3) 3).2)],.int .i64 0]):=iMul a b c d p0 p1 p2 p3 e0 e1 e2 e3 h1 h2 ha hb hc hd f0 f1 f2 f3 w hl
theorem xDiv (a b c d p0 p1 p2 p3:Rat)(e0:a / c=p0)(e1:a / d=p1)(e2:b / c=p2)(e3:b / d=p3)(h1:a≤b)(h2:c≤d)(hz:decide (c≤0∧0≤d)=false)(ha:FitQ a)(hb:FitQ b)(hc:FitQ c)(hd:FitQ d)(f0:FitQ p0)(f1:FitQ p1)(f2:FitQ p2)(f3:FitQ p3)(w:World)(hl:La w) :
 CR 45 #[.agg #[.string (Sq a),.string (Sq b)],.agg #[.string (Sq c),.string (Sq d)]] w (.tuple #[.agg #[.string (Sq (exOf (row4 p0 p1 p2 p3) 3).1),.string (Sq (exOf (row4 p0 p1 p2 p3) 3).2)],.int .i64 0]):=iDiv a b c d p0 p1 p2 p3 e0 e1 e2 e3 h1 h2 hz ha hb hc hd f0 f1 f2 f3 w hl
theorem xExact (x:Rat)(hx:FitQ x)(w:World)(hl:La w) :
 CR 82 #[.string (Sq x)] w (.tuple #[.agg #[.string (Sq x),.string (Sq x)],.int .i64 0]):=iExact x hx w hl
theorem xMeet (a b c d p q:Rat)(hp:(exOf (row2 a c) 1).2=p)(hq:(exOf (row2 b d) 1).1=q)(h1:a≤b)(h2:c≤d)(h3:p≤q)(ha:FitQ a)(hb:FitQ b)(hc:FitQ c)(hd:FitQ d)(w:World)(hl:La w) :
 CR 10 #[.agg #[.string (Sq a),.string (Sq b)],.agg #[.string (Sq c),.string (Sq d)]] w (.tuple #[.agg #[.string (Sq p),.string (Sq q)],.bool true]):=iMeet a b c d p q hp hq h1 h2 h3 ha hb hc hd w hl
end Go.Proofs.YtcihodmmaclihaaGreatDoor
namespace Go.Gb
def cosQ (t:Rat):Rat:=(1-t*t) / (1+t*t)
def sinQ (t:Rat):Rat:=2*t / (1+t*t)
theorem usq_pos (t:Rat):0<1+t*t:=by
 have:0≤t*t:=by
  rcases Rat.le_total (a:=0) (b:=t) with h|h
  · exact Rat.mul_nonneg h h
  · have:=Rat.mul_nonneg (show 0 ≤ -t by grind) (show 0 ≤ -t by grind)
    grind
 grind
theorem usq_ne (t:Rat):1+t*t≠0:=by have:=usq_pos t;grind
theorem udiv_nonneg {a b:Rat}(ha:0≤a)(hb:0<b):0≤a / b:=by
 rcases Rat.le_total (a:=0) (b:=a / b) with h|h
 · exact h
 · have h2:a / b*b=a:=Rat.div_mul_cancel (by grind)
   have h3:=Rat.mul_nonneg (show 0 ≤ -(a / b) by grind) (show 0≤b by grind)
   have h4:a=0:=by grind
   rw[h4]
   grind
def sumQ (s t:Rat):Rat:=(s+t) / (1-s*t)
def powU (x:Rat):Nat→Rat
 | 0=>x
 | i+1=>powU x i*(0-x*x)
def termU (x:Rat) (i:Nat):Rat:=powU x i / ((2*i+1:Nat):Rat)
def serU (x:Rat):Nat→Rat
 | 0=>0
 | n+1=>serU x n+termU x n
end Go.Gb
