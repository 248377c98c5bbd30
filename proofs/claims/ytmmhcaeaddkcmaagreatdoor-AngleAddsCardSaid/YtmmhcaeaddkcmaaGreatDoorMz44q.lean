/- Texts of this proof, one behind the other. -/
import Derived.Test.YtmmhcaeaddkcmaaGreatDoorVd
namespace Go.Proofs.YtmmhcaeaddkcmaaGreatDoor
open Go.RowKit Go.Gb
def Vq (x y:Rat):Value:=.agg #[.string (Sq x),.string (Sq y)]
theorem cmp_le {x y:Rat}(h:x≤y):cmpQ x y≤0:=by
 rcases cmpQ_cases x y with⟨h,e⟩|⟨h,e⟩|⟨h,e⟩<;>rw[e]<;>grind
theorem iValid_yes (x y:Rat)(h:x≤y)(hx:FitQ x)(hy:FitQ y)(w:World)(hl:La w) :
 CR 20 #[Vq x y] w (.bool true) :=
 ivalid_yes_raw _ _ _ (cmp_le h) w hl (fun W hW=>qCompare x y _ rfl hx hy W hW)
theorem iHas_in (x y z:Rat)(r:Bool)(hr:decide (x≤z∧z≤y)=r)(hx:FitQ x)(hy:FitQ y)(hz:FitQ z)(w:World)(hl:La w) :
 CR 39 #[Vq x y,.string (Sq z)] w (.bool r):=by
 subst hr
 by_cases h1:x≤z
 · by_cases h2:z≤y
   · rw[show decide (x≤z∧z≤y)=true by rw[decide_eq_true_iff];exact⟨h1,h2⟩]
     exact ihas_yes_raw _ _ _ _ _ (cmp_le h1) (cmp_le h2) w hl (fun W hW=>iOrder x z _ rfl hx hz W hW) (fun W hW=>iOrder z y _ rfl hz hy W hW)
   · rw[show decide (x≤z∧z≤y)=false by rw[decide_eq_false_iff_not];exact fun h=>h2 h.2]
     exact ihas_no2_raw _ _ _ _ (cmp_le h1) w hl (fun W hW=>iOrder x z _ rfl hx hz W hW) (fun W hW=>iOrder z y 1 (cmpQ_gt (by grind)) hz hy W hW)
 · rw[show decide (x≤z∧z≤y)=false by rw[decide_eq_false_iff_not];exact fun h=>h1 h.1]
   exact ihas_no1_raw _ _ _ w hl (fun W hW=>iOrder x z 1 (cmpQ_gt (by grind)) hx hz W hW)
theorem iHas (x y z:Rat)(r:Bool)(hr:decide (x≤z∧z≤y)=r)(h:x≤y)(hx:FitQ x)(hy:FitQ y)(hz:FitQ z)(w:World)(hl:La w) :
 CR 19 #[Vq x y,.string (Sq z)] w (.bool r) :=
 iHas_raw _ _ _ r w hl (fun W hW=>iValid_yes x y h hx hy W hW) (fun W hW=>qvalid_yes z hz W hW) (fun W hW=>iHas_in x y z r hr hx hy hz W hW)
theorem iSub (a b c d s t:Rat)(hs:a-d=s)(ht:b-c=t)(h1:a≤b)(h2:c≤d)(ha:FitQ a)(hb:FitQ b)(hc:FitQ c)(hd:FitQ d)(w:World)(hl:La w) :
 CR 85 #[Vq a b,Vq c d] w (.tuple #[Vq s t,.int .i64 0]) :=
 iSub_raw _ _ _ _ _ _ w hl (fun W hW=>iValid_yes a b h1 ha hb W hW) (fun W hW=>iValid_yes c d h2 hc hd W hW) (fun W hW=>qSub a d s hs ha hd W hW) (fun W hW=>qSub b c t ht hb hc W hW)
def row4 (p0 p1 p2 p3:Rat):Nat→Rat
 | 0=>p0
 | 1=>p1
 | 2=>p2
 | _=>p3
theorem ext4 (p0 p1 p2 p3:Rat)(f0:FitQ p0)(f1:FitQ p1)(f2:FitQ p2)(f3:FitQ p3)(W:World)(g:Nat)(hW:La W)(hg:g<W.heap.size)
 (c0:W.cell? ⟨g,0,none⟩=some (.string (Sq p0))) (c1:W.cell? ⟨g,1,none⟩=some (.string (Sq p1))) (c2:W.cell? ⟨g,2,none⟩=some (.string (Sq p2))) (c3:W.cell? ⟨g,3,none⟩=some (.string (Sq p3))) :
 CR 106 #[.slice (some ⟨g,0,none⟩) 4 4] W (.agg #[.string (Sq (exOf (row4 p0 p1 p2 p3) 3).1),.string (Sq (exOf (row4 p0 p1 p2 p3) 3).2)]) :=
 extremes_any g 4 4 (row4 p0 p1 p2 p3) (by decide) (by decide) (by decide) W hW hg
  (fun i hi=>match i,hi with
   | 0,_=>f0
   | 1,_=>f1
   | 2,_=>f2
   | 3,_=>f3)
  (fun i hi=>match i,hi with
   | 0,_=>c0
   | 1,_=>c1
   | 2,_=>c2
   | 3,_=>c3)
theorem iMul (a b c d p0 p1 p2 p3:Rat)(e0:a*c=p0)(e1:a*d=p1)(e2:b*c=p2)(e3:b*d=p3)(h1:a≤b)(h2:c≤d)(ha:FitQ a)(hb:FitQ b)(hc:FitQ c)(hd:FitQ d)(f0:FitQ p0)(f1:FitQ p1)(f2:FitQ p2)(f3:FitQ p3)(w:World)(hl:La w) :
 CR 81 #[Vq a b,Vq c d] w (.tuple #[Vq (exOf (row4 p0 p1 p2 p3) 3).1 (exOf (row4 p0 p1 p2 p3) 3).2,.int .i64 0]) :=
 iMul_raw _ _ _ _ _ _ w hl (fun W hW=>iValid_yes a b h1 ha hb W hW) (fun W hW=>iValid_yes c d h2 hc hd W hW)
  (fun W hW=>combineMul_raw _ _ _ _ _ _ _ _ _ _ W hW (fun V hV=>qMul a c p0 e0 ha hc V hV) (fun V hV=>qMul a d p1 e1 ha hd V hV) (fun V hV=>qMul b c p2 e2 hb hc V hV) (fun V hV=>qMul b d p3 e3 hb hd V hV) (fun V g hV=>ext4 p0 p1 p2 p3 f0 f1 f2 f3 V g hV))
theorem iDiv (a b c d p0 p1 p2 p3:Rat)(e0:a / c=p0)(e1:a / d=p1)(e2:b / c=p2)(e3:b / d=p3)(h1:a≤b)(h2:c≤d)(hz:decide (c≤0∧0≤d)=false)(ha:FitQ a)(hb:FitQ b)(hc:FitQ c)(hd:FitQ d)(f0:FitQ p0)(f1:FitQ p1)(f2:FitQ p2)(f3:FitQ p3)(w:World)(hl:La w) :
 CR 63 #[Vq a b,Vq c d] w (.tuple #[Vq (exOf (row4 p0 p1 p2 p3) 3).1 (exOf (row4 p0 p1 p2 p3) 3).2,.int .i64 0]):=by
 have hz2:=of_decide_eq_false hz
 have hc0:c≠0:=by rintro rfl;exact hz2 ⟨by grind,h2⟩
 have hd0:d≠0:=by rintro rfl;exact hz2 ⟨h2,by grind⟩
 have h3:=fun W hW=>iHas_in c d 0 false hz hc hd (fitq_small (by decide +kernel) (by decide +kernel)) W hW
 rw[q_0]at h3
 exact iDiv_raw _ _ _ _ _ _ w hl (fun W hW=>iValid_yes a b h1 ha hb W hW) (fun W hW=>iValid_yes c d h2 hc hd W hW) h3
  (fun W hW=>combineDiv_raw _ _ _ _ _ _ _ _ _ _ W hW (fun V hV=>qDiv a c p0 e0 ha hc hc0 V hV) (fun V hV=>qDiv a d p1 e1 ha hd hd0 V hV) (fun V hV=>qDiv b c p2 e2 hb hc hc0 V hV) (fun V hV=>qDiv b d p3 e3 hb hd hd0 V hV) (fun V g hV=>ext4 p0 p1 p2 p3 f0 f1 f2 f3 V g hV))
theorem iExact (x:Rat)(hx:FitQ x)(w:World)(hl:La w) :
 CR 103 #[.string (Sq x)] w (.tuple #[Vq x x,.int .i64 0]) :=
 iExact_raw _ w hl (fun W hW=>qvalid_yes x hx W hW)
open Go.RowKit Go.Gb
theorem itoaB (n:Int)(h0 : -9223372036854775808≤n)(h1:n≤9223372036854775807)(w:World)(hl:La w) :
 CR 105 #[.int .i64 n] w (.string (Sz n)):=by
 have h:=Tryz.strconv_Itoa n h0 h1 w hl.tb
 rw[itoa_sz]at h
 exact h.mono (fun e w' ⟨e1,k,os,e2⟩=>⟨e1,e2▸Lib.below_grow w.heap.size w (Nat.le_refl _) k os⟩)
open Go.RowKit Go.Gb
theorem exStep_in (p:Rat × Rat)(x:Rat)(h:p.1≤p.2):(exStep p x).1≤x∧x≤(exStep p x).2:=by
 unfold exStep
 split
 · constructor<;>grind
 · split
   · constructor<;>grind
   · constructor<;>grind
theorem exOf_order (q:Nat→Rat):∀ n,(exOf q n).1≤(exOf q n).2
 | 0=>Rat.le_refl
 | n+1=>by
   have h:=exOf_order q n
   have h2:=exStep_in (exOf q n) (q (n+1)) h
   show(exStep (exOf q n) (q (n+1))).1≤(exStep (exOf q n) (q (n+1))).2
   grind
theorem exOf_one (q:Nat→Rat):∀ n,(∃ i,i≤n∧(exOf q n).1=q i)∧(∃ i,i≤n∧(exOf q n).2=q i)
 | 0=>⟨⟨0,Nat.le_refl _,rfl⟩,⟨0,Nat.le_refl _,rfl⟩⟩
 | n+1=>by
   obtain⟨⟨i,hi,h1⟩,⟨j,hj,h2⟩⟩:=exOf_one q n
   show(∃ i,i≤n+1∧(exStep (exOf q n) (q (n+1))).1=q i)∧(∃ i,i≤n+1∧(exStep (exOf q n) (q (n+1))).2=q i)
   unfold exStep
   split
   · exact⟨⟨n+1,Nat.le_refl _,rfl⟩,⟨j,by omega,h2⟩⟩
   · split
     · exact⟨⟨i,by omega,h1⟩,⟨n+1,Nat.le_refl _,rfl⟩⟩
     · exact⟨⟨i,by omega,h1⟩,⟨j,by omega,h2⟩⟩
theorem row4_one (p0 p1 p2 p3:Rat):((exOf (row4 p0 p1 p2 p3) 3).1=p0∨(exOf (row4 p0 p1 p2 p3) 3).1=p1∨(exOf (row4 p0 p1 p2 p3) 3).1=p2∨(exOf (row4 p0 p1 p2 p3) 3).1=p3)∧((exOf (row4 p0 p1 p2 p3) 3).2=p0∨(exOf (row4 p0 p1 p2 p3) 3).2=p1∨(exOf (row4 p0 p1 p2 p3) 3).2=p2∨(exOf (row4 p0 p1 p2 p3) 3).2=p3):=by
 obtain⟨⟨i,hi,e⟩,⟨j,hj,f⟩⟩:=exOf_one (row4 p0 p1 p2 p3) 3
 rw[e,f]
 constructor
 · match i,hi with
   | 0,_=>exact Or.inl rfl
   | 1,_=>exact Or.inr (Or.inl rfl)
   | 2,_=>exact Or.inr (Or.inr (Or.inl rfl))
   | 3,_=>exact Or.inr (Or.inr (Or.inr rfl))
 · match j,hj with
   | 0,_=>exact Or.inl rfl
   | 1,_=>exact Or.inr (Or.inl rfl)
   | 2,_=>exact Or.inr (Or.inr (Or.inl rfl))
   | 3,_=>exact Or.inr (Or.inr (Or.inr rfl))
open Go.RowKit Go.Gb
def Iv (g:Nat) (x y:ByteArray) (W:World):Prop:=g<W.heap.size∧W.cell? ⟨g,0,none⟩=some (.string x)∧W.cell? ⟨g,1,none⟩=some (.string y)
theorem Iv.mono {g:Nat}{x y:ByteArray}{W W':World}(h:Iv g x y W)(hb:Below W.heap.size W W'):Iv g x y W' :=
 ⟨Nat.lt_of_lt_of_le h.1 hb.size,(hb.cell (p:=⟨g,0,none⟩) h.1).trans h.2.1,(hb.cell (p:=⟨g,1,none⟩) h.1).trans h.2.2⟩
theorem below_alloc (W:World)(o:Obj):Below W.heap.size W (W.alloc o):=(Below.refl W.heap.size W).alloc (Nat.le_refl _) o
theorem iv_box (W:World)(x y:ByteArray):Iv W.heap.size x y (W.alloc (.cells #[.string x,.string y] 34)) :=
 ⟨by simp,(q_new rfl).trans rfl,(q_new rfl).trans rfl⟩theorem iv_boxg {W:World} {g:Nat} (hg:g=W.heap.size) (x y:ByteArray):Iv g x y (W.alloc (.cells #[.string x,.string y] 34)):=by subst hg;exact iv_box W x y
end Go.Proofs.YtmmhcaeaddkcmaaGreatDoor
set_option maxRecDepth 100000
set_option maxHeartbeats 20000000
open Go.Lib (hid)
namespace Go.Proofs.YtmmhcaeaddkcmaaGreatDoor
open Go.RowKit Go.Gb
def hcells (q:Nat→Rat) (m:Nat):List Value:=(List.range m).map fun j => .string (Sq (q j))
theorem hcells_two (q:Nat→Rat)(i:Nat):hcells q (2*i)++[.string (Sq (q (2*i))),.string (Sq (q (2*i+1)))]=hcells q (2*i+2):=by
 unfold hcells
 rw[List.range_succ,List.range_succ]
 simp
theorem hcells_get (q:Nat→Rat){m i:Nat}(h:i<m):(hcells q m)[i]? = some (.string (Sq (q i))):=by
 unfold hcells
 simp[h]
theorem own_read {W:World}{base n:Nat}{e:TypeId}{v:Value}{xs:List Value}(h:W.ownsRow base e 1 v n xs)(hn:0<n) :
 ∃ g cap,v=.slice (some ⟨g,0,none⟩) n cap∧base≤g∧g<W.heap.size∧n≤cap∧∀ i x,xs[i]? = some x→W.cell? ⟨g,i,none⟩=some x:=by
 obtain⟨h1,h2⟩:=h
 rcases h2 with⟨h2,h3⟩|⟨g,cap,cur,hv,hg,hh,hn2,hc,hs,ht⟩
 · omega
 · refine⟨g,cap,hv,hg,(Array.getElem?_eq_some_iff.1 hh).1,hn2,fun i x hx=>?_⟩
   have hi:i<n:=by
    have:=(List.getElem?_eq_some_iff.1 hx).1
    omega
   rw[← ht,Nat.mul_one,List.getElem?_take,if_pos hi]at hx
   simp only[World.cell?,hh]
   simpa using hx
theorem own_below {W W':World}{base n:Nat}{e:TypeId}{v:Value}{xs:List Value}(h:W.ownsRow base e 1 v n xs)(hb:Below W.heap.size W W'):W'.ownsRow base e 1 v n xs:=by
 obtain⟨h1,h2⟩:=h
 refine⟨h1,?_⟩
 rcases h2 with h2|⟨g,cap,cur,hv,hg,hh,r⟩
 · exact Or.inl h2
 · exact Or.inr ⟨g,cap,cur,hv,hg,by rw[hb.block g (Array.getElem?_eq_some_iff.1 hh).1];exact hh,r⟩
theorem cells_two (w:World)(u v:Value)(T:TypeId):∀ j x,[u,v][j]? = some x→(w.alloc (.cells #[u,v] T)).cell? ((⟨w.heap.size,0,none⟩:Addr).add j)=some x:=by
 intro j x hj
 match j,hj with
 | 0,hj=>simp at hj;subst hj;simp[Addr.add]
 | 1,hj=>simp at hj;subst hj;simp[Addr.add]
theorem rat_info:∃ i0:TypeInfo,Tryz.prog.info? 22=some i0∧i0.zero=some (.string ⟨#[]⟩)∧i0.size=1∧i0.bytes=16:=by
 have h1:(Tryz.prog.info? 22).map (fun i=>i.zero)=some (some (.string ⟨#[]⟩)):=by kernel_rfl
 have h2:(Tryz.prog.info? 22).map (fun i=>i.size)=some 1:=by kernel_rfl
 have h3:(Tryz.prog.info? 22).map (fun i=>i.bytes)=some 16:=by kernel_rfl
 cases h:Tryz.prog.info? 22 with
 | none=>rw[h]at h1;cases h1
 | some i =>
   rw[h]at h1 h2 h3
   exact⟨i,rfl,by simpa using h1,by simpa using h2,by simpa using h3⟩
theorem hull_any (g n c:Nat)(q:Nat→Rat)(hn1:1≤n)(hn2:n≤1024)(hnc:n≤c)(w:World)(hl:La w)(hg:g<w.heap.size)
 (hq:∀ i,i<2*n→FitQ (q i)) (hv:∀ i,i<n→q (2*i)≤q (2*i+1)) (hcell:∀ i,i<2*n→w.cell? ⟨g,i,none⟩=some (.string (Sq (q i)))) :
 CR 84 #[.slice (some ⟨g,0,none⟩) n c] w (.tuple #[Vq (exOf q (2*n-1)).1 (exOf q (2*n-1)).2,.int .i64 0]):=by
 obtain⟨i0,hi,hz0,hz1,hz2⟩:=rat_info
 obtain⟨w0,hw0⟩:∃ w0:World,w0=w.alloc (.cells #[.string ⟨#[]⟩,.string ⟨#[]⟩] 34):=⟨_,rfl⟩
 have hs0:w0.heap.size=w.heap.size+1:=by rw[hw0];simp
 have hb0:Below w.heap.size w w0:=by rw[hw0];exact below_alloc w _
 have hr0:w0.cell? ⟨w.heap.size,0,none⟩=some (.string ⟨#[]⟩)∧w0.cell? ⟨w.heap.size,1,none⟩=some (.string ⟨#[]⟩)∧w0.frozen? ⟨w.heap.size,0,none⟩=false∧w0.frozen? ⟨w.heap.size,1,none⟩=false:=by
  rw[hw0];exact⟨(q_new rfl).trans rfl,(q_new rfl).trans rfl,fq_new rfl,fq_new rfl⟩
 have HQ:=hid hq
 have HV:=hid hv
 have KB:=hid (show ∀ W:World,Below w0.heap.size w0 W→Below w.heap.size w W from fun W hB=>hb0.trans (hB.mono (by omega)))
 have HC:=hid (show ∀ W:World,Below w0.heap.size w0 W→∀ i,i<2*n→W.cell? ⟨g,i,none⟩=some (.string (Sq (q i))) from fun W hB i hi'=>((KB.out W hB).cell (p:=⟨g,i,none⟩) hg).trans (hcell i hi'))
 have KR:=hid (show ∀ W:World,Below w0.heap.size w0 W→(W.cell? ⟨w.heap.size,0,none⟩=some (.string ⟨#[]⟩)∧W.cell? ⟨w.heap.size,1,none⟩=some (.string ⟨#[]⟩)∧W.frozen? ⟨w.heap.size,0,none⟩=false∧W.frozen? ⟨w.heap.size,1,none⟩=false) from fun W hB=>by
  obtain⟨c0,c1,f0,f1⟩:=hr0
  exact⟨(hB.cell (p:=⟨w.heap.size,0,none⟩) (by show w.heap.size<_;omega)).trans c0,(hB.cell (p:=⟨w.heap.size,1,none⟩) (by show w.heap.size<_;omega)).trans c1,(hB.frozen (p:=⟨w.heap.size,0,none⟩) (by show w.heap.size<_;omega)).trans f0,(hB.frozen (p:=⟨w.heap.size,1,none⟩) (by show w.heap.size<_;omega)).trans f1⟩)
 have HL:=hid (show ∀ W:World,Below w0.heap.size w0 W→La W from fun W hB=>hl.on (KB.out W hB))
 have KZ:=hid (show ∀ W:World,Below w0.heap.size w0 W→w.heap.size+1≤W.heap.size from fun W hB=>by have:=hB.size;omega)
 have F0:=hid (Below.refl w0.heap.size w0)
 have HS:=hid hs0
 have HW0:=hid hw0
 have ne0:¬ (n:Int)=0:=by omega
 have ne1:¬ (1024:Int)<(n:Int):=by omega
 have nc:(n:Int)≤(c:Int):=by omega
 clear hq hv hcell hb0 hr0 hl hs0 hw0
 go_enter Tryz.func84,Tryz.ntmps84
 go_wp2
 rw[← HW0.out]
 go_loopw [4,6,17] (fun v _ ii wr=>∃ (i:Nat),i≤n∧ii=.int .i64 (i:Int)∧Hid (wr.ownsRow w0.heap.size 22 1 v (2*i) (hcells q (2*i)))∧Hid (Below w0.heap.size w0 wr)) (fun _ _ ii _=>n-(intOf ii).toNat)
 case atStart=>exact⟨0,by omega,rfl,hid (World.ownsRow_nil w0 w0.heap.size 22 1),F0⟩
 case round =>
  obtain⟨i,hin,rfl,hO,hF⟩:=hrel
  have hi2:(i:Int)≤1024:=by omega
  have hi3:(0:Int)≤(i:Int):=by omega
  have wi:IntKind.i64.wrap ((i:Int)+1)=(i:Int)+1:=IntWalk.i64_in _ (by omega)
  by_cases hlt:i<n
  · have c0:wr.cell? ⟨g,i*2,none⟩=some (.string (Sq (q (2*i)))):=by rw[Nat.mul_comm];exact HC.out _ hF.out (2*i) (by omega)
    have c1:wr.cell? ⟨g,i*2+1,none⟩=some (.string (Sq (q (2*i+1)))):=by rw[Nat.mul_comm];exact HC.out _ hF.out (2*i+1) (by omega)
    have FX:=hid (HQ.out (2*i) (by omega))
    have FY:=hid (HQ.out (2*i+1) (by omega))
    have HXY:=hid (HV.out i hlt)
    have HNX:=hid (hcells_two q i)
    generalize q (2*i)=x at *
    generalize q (2*i+1)=y at *
    have hlt1:(i:Int)<(n:Int):=by omega
    have CV:=hid (fun W hW=>show CR 20 #[.agg #[.string (Sq x),.string (Sq y)]] W (.bool true) from iValid_yes x y HXY.out FX.out FY.out W hW)
    go_wp2_with fail
    have F1:=hid (hF.out.alloc hF.out.size (.cells #[.string (Sq x),.string (Sq y)] 34))
    have O1:=hid (hO.out.alloc (.cells #[.string (Sq x),.string (Sq y)] 34))
    refine(CV.out _ (HL.out _ F1.out)).mono ?_
    rintro e w1 ⟨rfl,hb⟩
    have V2:=hid ((iv_box wr (Sq x) (Sq y)).mono hb)
    have F2:=hid (fr_chain F1.out hb)
    have O2:=hid (own_below O1.out hb)
    clear hb c0 c1 F1 O1 CV
    obtain⟨_,c0,c1⟩:=V2.out
    go_wp2_with (at_builtin;refine wpList_append_own _ rfl _ _ 41 rfl w0.heap.size 22 i0 (.string ⟨#[]⟩) 1 16 Tryz.underlying41 hi hz0 hz1 hz2 rfl (by decide) _ (2*i) (hcells q (2*i)) rfl (O2.out.alloc _) ⟨w1.heap.size,0,none⟩ 2 2 [.string (Sq x),.string (Sq y)] rfl rfl (cells_two _ _ _ _) (by intro u hu;simp at hu;rcases hu with rfl|rfl<;>rfl) (by unfold maxLen;omega) (by omega) (by have:=F2.out.size;simp;omega) ?_)
    intro v' w2 hown hgrow _
    rw[HNX.out]at hown
    have F3:=hid ((F2.out.alloc F2.out.size _).grown hgrow (by have:=F2.out.size;simp;omega) (fun k hk=>(O2.out.lt k hk).1))
    have O3:=hid hown
    clear hown hgrow
    go_wp2
    go_roundw
    case rel=>exact⟨i+1,by omega,by go_num,O3,F3⟩
    case measure=>simp[intOf];omega
  · have hge:decide ((i:Int)<(n:Int))=false:=by rw[decide_eq_false_iff_not];omega
    obtain rfl:i=n:=by omega
    obtain⟨g1,cap,rfl,hg1,hg2,hcap,hcs⟩:=own_read hO.out (by omega)
    have CE:=hid (extremes_any g1 (2*i) cap q (by omega) (by omega) hcap wr (HL.out _ hF.out) hg2 HQ.out (fun j hj=>hcs j _ (hcells_get q hj)))
    clear hO hcs
    go_wp2_with fail
    refine CE.out.mono ?_
    rintro e w1 ⟨rfl,hb⟩
    have F1:=hid (fr_chain hF.out hb)
    clear hb
    obtain⟨m0,m1,n0,n1⟩:=KR.out _ F1.out
    go_wp2
    refine bodyPost_ret (v:=.tuple #[.agg #[.string (Sq (exOf q (2*i-1)).1),.string (Sq (exOf q (2*i-1)).2)],.int .i64 0]) (by simp[results,Tryz.results84,go_sem,m0,m1]) rfl ⟨rfl,?_⟩
    exact((KB.out _ F1.out).setCell (p:=⟨w.heap.size,0,none⟩) (Nat.le_refl _) _).setCell (p:=⟨w.heap.size,1,none⟩) (Nat.le_refl _) _
open Go.RowKit Go.Gb
theorem xValid_yes (x y:Rat)(h:x≤y)(hx:FitQ x)(hy:FitQ y)(w:World)(hl:La w) :
 CR 20 #[.agg #[.string (Sq x),.string (Sq y)]] w (.bool true):=iValid_yes x y h hx hy w hl
theorem xHas (x y z:Rat)(r:Bool)(hr:decide (x≤z∧z≤y)=r)(h:x≤y)(hx:FitQ x)(hy:FitQ y)(hz:FitQ z)(w:World)(hl:La w) :
 CR 19 #[.agg #[.string (Sq x),.string (Sq y)],.string (Sq z)] w (.bool r):=iHas x y z r hr h hx hy hz w hl
theorem xSub (a b c d s t:Rat)(hs:a-d=s)(ht:b-c=t)(h1:a≤b)(h2:c≤d)(ha:FitQ a)(hb:FitQ b)(hc:FitQ c)(hd:FitQ d)(w:World)(hl:La w) :
 CR 85 #[.agg #[.string (Sq a),.string (Sq b)],.agg #[.string (Sq c),.string (Sq d)]] w (.tuple #[.agg #[.string (Sq s),.string (Sq t)],.int .i64 0]):=iSub a b c d s t hs ht h1 h2 ha hb hc hd w hl
theorem xMul (a b c d p0 p1 p2 p3:Rat)(e0:a*c=p0)(e1:a*d=p1)(e2:b*c=p2)(e3:b*d=p3)(h1:a≤b)(h2:c≤d)(ha:FitQ a)(hb:FitQ b)(hc:FitQ c)(hd:FitQ d)(f0:FitQ p0)(f1:FitQ p1)(f2:FitQ p2)(f3:FitQ p3)(w:World)(hl:La w) :
 CR 81 #[.agg #[.string (Sq a),.string (Sq b)],.agg #[.string (Sq c),.string (Sq d)]] w (.tuple #[.agg #[.string (Sq (exOf (row4 p0 p1 p2 p3) 3).1),.string (Sq (exOf (row4 p0 p1 p2 p3) 3).2)],.int .i64 0]):=iMul a b c d p0 p1 p2 p3 e0 e1 e2 e3 h1 h2 ha hb hc hd f0 f1 f2 f3 w hl
theorem xDiv (a b c d p0 p1 p2 p3:Rat)(e0:a / c=p0)(e1:a / d=p1)(e2:b / c=p2)(e3:b / d=p3)(h1:a≤b)(h2:c≤d)(hz:decide (c≤0∧0≤d)=false)(ha:FitQ a)(hb:FitQ b)(hc:FitQ c)(hd:FitQ d)(f0:FitQ p0)(f1:FitQ p1)(f2:FitQ p2)(f3:FitQ p3)(w:World)(hl:La w) :
 CR 63 #[.agg #[.string (Sq a),.string (Sq b)],.agg #[.string (Sq c),.string (Sq d)]] w (.tuple #[.agg #[.string (Sq (exOf (row4 p0 p1 p2 p3) 3).1),.string (Sq (exOf (row4 p0 p1 p2 p3) 3).2)],.int .i64 0]):=iDiv a b c d p0 p1 p2 p3 e0 e1 e2 e3 h1 h2 hz ha hb hc hd f0 f1 f2 f3 w hl
theorem xExact (x:Rat)(hx:FitQ x)(w:World)(hl:La w) :
 CR 103 #[.string (Sq x)] w (.tuple #[.agg #[.string (Sq x),.string (Sq x)],.int .i64 0]):=iExact x hx w hl
end Go.Proofs.YtmmhcaeaddkcmaaGreatDoor
namespace Go.Gb
def cosQ (t:Rat):Rat:=(1-t*t) / (1+t*t)
def sinQ (t:Rat):Rat:=2*t / (1+t*t)
theorem usq_pos (t:Rat):0<1+t*t:=by
 have:0≤t*t:=by
  rcases Rat.le_total (a:=0) (b:=t) with h|h
  · exact Rat.mul_nonneg h h
  · have:=Rat.mul_nonneg (show 0 ≤ -t by grind) (show 0 ≤ -t by grind)
    grind
 grind
theorem usq_ne (t:Rat):1+t*t≠0:=by have:=usq_pos t;grind
theorem cs_one (t:Rat):cosQ t*cosQ t+sinQ t*sinQ t=1:=by
 have h:=usq_ne t
 unfold cosQ sinQ
 grind
theorem cos_neg (t:Rat):cosQ (t*(-1))=cosQ t:=by
 unfold cosQ
 rw[show t*(-1)*(t*(-1))=t*t by grind]
theorem sin_neg (t:Rat):sinQ (t*(-1))=sinQ t*(-1):=by
 have h:=usq_ne t
 unfold sinQ
 rw[show t*(-1)*(t*(-1))=t*t by grind]
 grind
theorem udiv_nonneg {a b:Rat}(ha:0≤a)(hb:0<b):0≤a / b:=by
 rcases Rat.le_total (a:=0) (b:=a / b) with h|h
 · exact h
 · have h2:a / b*b=a:=Rat.div_mul_cancel (by grind)
   have h3:=Rat.mul_nonneg (show 0 ≤ -(a / b) by grind) (show 0≤b by grind)
   have h4:a=0:=by grind
   rw[h4]
   grind
theorem cos_nonneg {t:Rat}(h1 : -1≤t)(h2:t≤1):0≤cosQ t:=by
 unfold cosQ
 refine udiv_nonneg ?_ (usq_pos t)
 have:=Rat.mul_nonneg (show 0≤1-t by grind) (show 0≤1+t by grind)
 grind
def sumQ (s t:Rat):Rat:=(s+t) / (1-s*t)
theorem sum_comm (s t:Rat):sumQ s t=sumQ t s:=by
 unfold sumQ
 rw[show s+t=t+s by grind,show s*t=t*s by grind]
theorem usum_sq {s t:Rat}(h:1-s*t≠0):1+sumQ s t*sumQ s t=(1+s*s)*(1+t*t) / ((1-s*t)*(1-s*t)):=by
 unfold sumQ
 grind
theorem cos_sum {s t:Rat}(h:1-s*t≠0):cosQ (sumQ s t)=cosQ s*cosQ t-sinQ s*sinQ t:=by
 have h1:=usq_ne s
 have h2:=usq_ne t
 have h3:=usq_ne (sumQ s t)
 have h4:=usum_sq h
 have e:sumQ s t*(1-s*t)=s+t:=Rat.div_mul_cancel h
 unfold cosQ sinQ
 generalize sumQ s t=u at *
 grind
theorem sin_sum {s t:Rat}(h:1-s*t≠0):sinQ (sumQ s t)=cosQ s*sinQ t+sinQ s*cosQ t:=by
 have h1:=usq_ne s
 have h2:=usq_ne t
 have h3:=usq_ne (sumQ s t)
 have h4:=usum_sq h
 have e:sumQ s t*(1-s*t)=s+t:=Rat.div_mul_cancel h
 unfold cosQ sinQ
 generalize sumQ s t=u at *
 grind
theorem back_ne {s t:Rat}(h:1-s*t≠0):1-sumQ s t*(t*(-1))≠0:=by
 have h2:=usq_ne t
 have e:sumQ s t*(1-s*t)=s+t:=Rat.div_mul_cancel h
 generalize sumQ s t=u at *
 intro h0
 have:(1+t*t)=0:=by grind
 exact h2 this
theorem sum_back {s t:Rat}(h:1-s*t≠0):sumQ (sumQ s t) (t*(-1))=s:=by
 have h2:=usq_ne t
 have h3:=back_ne h
 have e:sumQ s t*(1-s*t)=s+t:=Rat.div_mul_cancel h
 have e2:sumQ (sumQ s t) (t*(-1))*(1-sumQ s t*(t*(-1)))=sumQ s t+t*(-1):=Rat.div_mul_cancel h3
 generalize sumQ (sumQ s t) (t*(-1))=v at *
 generalize sumQ s t=u at *
 have e3:(v-s)*(1-u*(t*(-1)))=0:=by grind
 rcases Rat.mul_eq_zero.1 e3 with h|h
 · grind
 · exact absurd h h3
theorem sum_zero (s:Rat):sumQ s 0=s:=by unfold sumQ;grind
def powU (x:Rat):Nat→Rat
 | 0=>x
 | i+1=>powU x i*(0-x*x)
def termU (x:Rat) (i:Nat):Rat:=powU x i / ((2*i+1:Nat):Rat)
def serU (x:Rat):Nat→Rat
 | 0=>0
 | n+1=>serU x n+termU x n
end Go.Gb
