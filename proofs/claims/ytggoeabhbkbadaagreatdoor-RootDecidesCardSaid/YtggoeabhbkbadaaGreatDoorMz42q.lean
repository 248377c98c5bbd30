/- Texts of this proof, one behind the other. -/
import Derived.Test.YtggoeabhbkbadaaGreatDoorVj
import Derived.Test.YtggoeabhbkbadaaGreatDoorOm
namespace Go.Proofs.YtggoeabhbkbadaaGreatDoor
open Go.RowKit Go.Gb
theorem exStep_le (p:Rat × Rat)(x:Rat):(exStep p x).1≤p.1∧p.2≤(exStep p x).2:=by
 unfold exStep
 split
 · constructor<;>grind
 · split
   · constructor<;>grind
   · constructor<;>grind
theorem exStep_in (p:Rat × Rat)(x:Rat)(h:p.1≤p.2):(exStep p x).1≤x∧x≤(exStep p x).2:=by
 unfold exStep
 split
 · constructor<;>grind
 · split
   · constructor<;>grind
   · constructor<;>grind
theorem exOf_order (q:Nat→Rat):∀ n,(exOf q n).1≤(exOf q n).2
 | 0=>Rat.le_refl
 | n+1=>by
   have h:=exOf_order q n
   have h2:=exStep_in (exOf q n) (q (n+1)) h
   show(exStep (exOf q n) (q (n+1))).1≤(exStep (exOf q n) (q (n+1))).2
   grind
theorem exOf_in (q:Nat→Rat):∀ n i,i≤n→(exOf q n).1≤q i∧q i≤(exOf q n).2
 | 0,i,h=>by
   obtain rfl:i=0:=by omega
   exact⟨Rat.le_refl,Rat.le_refl⟩
 | n+1,i,h=>by
   have h1:=exStep_le (exOf q n) (q (n+1))
   have h2:=exStep_in (exOf q n) (q (n+1)) (exOf_order q n)
   by_cases hi:i=n+1
   · subst hi;exact h2
   · have h3:=exOf_in q n i (by omega)
     exact⟨Rat.le_trans h1.1 h3.1,Rat.le_trans h3.2 h1.2⟩
theorem exOf_one (q:Nat→Rat):∀ n,(∃ i,i≤n∧(exOf q n).1=q i)∧(∃ i,i≤n∧(exOf q n).2=q i)
 | 0=>⟨⟨0,Nat.le_refl _,rfl⟩,⟨0,Nat.le_refl _,rfl⟩⟩
 | n+1=>by
   obtain⟨⟨i,hi,h1⟩,⟨j,hj,h2⟩⟩:=exOf_one q n
   show(∃ i,i≤n+1∧(exStep (exOf q n) (q (n+1))).1=q i)∧(∃ i,i≤n+1∧(exStep (exOf q n) (q (n+1))).2=q i)
   unfold exStep
   split
   · exact⟨⟨n+1,Nat.le_refl _,rfl⟩,⟨j,by omega,h2⟩⟩
   · split
     · exact⟨⟨i,by omega,h1⟩,⟨n+1,Nat.le_refl _,rfl⟩⟩
     · exact⟨⟨i,by omega,h1⟩,⟨j,by omega,h2⟩⟩
theorem row4_in (p0 p1 p2 p3:Rat):((exOf (row4 p0 p1 p2 p3) 3).1≤p0∧(exOf (row4 p0 p1 p2 p3) 3).1≤p1∧(exOf (row4 p0 p1 p2 p3) 3).1≤p2∧(exOf (row4 p0 p1 p2 p3) 3).1≤p3)∧(p0≤(exOf (row4 p0 p1 p2 p3) 3).2∧p1≤(exOf (row4 p0 p1 p2 p3) 3).2∧p2≤(exOf (row4 p0 p1 p2 p3) 3).2∧p3≤(exOf (row4 p0 p1 p2 p3) 3).2):=by
 have h:=exOf_in (row4 p0 p1 p2 p3) 3
 exact⟨⟨(h 0 (by decide)).1,(h 1 (by decide)).1,(h 2 (by decide)).1,(h 3 (by decide)).1⟩,⟨(h 0 (by decide)).2,(h 1 (by decide)).2,(h 2 (by decide)).2,(h 3 (by decide)).2⟩⟩
theorem row4_one (p0 p1 p2 p3:Rat):((exOf (row4 p0 p1 p2 p3) 3).1=p0∨(exOf (row4 p0 p1 p2 p3) 3).1=p1∨(exOf (row4 p0 p1 p2 p3) 3).1=p2∨(exOf (row4 p0 p1 p2 p3) 3).1=p3)∧((exOf (row4 p0 p1 p2 p3) 3).2=p0∨(exOf (row4 p0 p1 p2 p3) 3).2=p1∨(exOf (row4 p0 p1 p2 p3) 3).2=p2∨(exOf (row4 p0 p1 p2 p3) 3).2=p3):=by
 obtain⟨⟨i,hi,e⟩,⟨j,hj,f⟩⟩:=exOf_one (row4 p0 p1 p2 p3) 3
 rw[e,f]
 constructor
 · match i,hi with
   | 0,_=>exact Or.inl rfl
   | 1,_=>exact Or.inr (Or.inl rfl)
   | 2,_=>exact Or.inr (Or.inr (Or.inl rfl))
   | 3,_=>exact Or.inr (Or.inr (Or.inr rfl))
 · match j,hj with
   | 0,_=>exact Or.inl rfl
   | 1,_=>exact Or.inr (Or.inl rfl)
   | 2,_=>exact Or.inr (Or.inr (Or.inl rfl))
   | 3,_=>exact Or.inr (Or.inr (Or.inr rfl))
theorem lin_le {a b x t l:Rat}(h1:a≤x)(h2:x≤b)(ha:l≤a*t)(hb:l≤b*t):l≤x*t:=by
 by_cases ht:0≤t
 · have:=Rat.mul_nonneg (show 0≤x-a by grind) ht
   grind
 · have:=Rat.mul_nonneg (show 0≤b-x by grind) (show 0 ≤ -t by grind)
   grind
theorem row2_in (p0 p1:Rat):((exOf (row2 p0 p1) 1).1≤p0∧(exOf (row2 p0 p1) 1).1≤p1)∧(p0≤(exOf (row2 p0 p1) 1).2∧p1≤(exOf (row2 p0 p1) 1).2):=by
 have h:=exOf_in (row2 p0 p1) 1
 exact⟨⟨(h 0 (by decide)).1,(h 1 (by decide)).1⟩,⟨(h 0 (by decide)).2,(h 1 (by decide)).2⟩⟩
theorem row2_one (p0 p1:Rat):((exOf (row2 p0 p1) 1).1=p0∨(exOf (row2 p0 p1) 1).1=p1)∧((exOf (row2 p0 p1) 1).2=p0∨(exOf (row2 p0 p1) 1).2=p1):=by
 obtain⟨⟨i,hi,e⟩,⟨j,hj,f⟩⟩:=exOf_one (row2 p0 p1) 1
 rw[e,f]
 constructor
 · match i,hi with
   | 0,_=>exact Or.inl rfl
   | 1,_=>exact Or.inr rfl
 · match j,hj with
   | 0,_=>exact Or.inl rfl
   | 1,_=>exact Or.inr rfl
theorem sq_nonneg (x:Rat):0≤x*x:=by
 by_cases h:0≤x
 · exact Rat.mul_nonneg h h
 · have:=Rat.mul_nonneg (show 0 ≤ -x by grind) (show 0 ≤ -x by grind)
   grind
theorem rdQ_eq (x:Rat)(n:Int):rdQ x n=(((x*(n:Rat)).floor:Int):Rat) / (n:Rat):=by
 unfold rdQ
 rw[Rat.divInt_eq_div,Rat.floor_def]
 rfl
def Iv (g:Nat) (x y:ByteArray) (W:World):Prop:=g<W.heap.size∧W.cell? ⟨g,0,none⟩=some (.string x)∧W.cell? ⟨g,1,none⟩=some (.string y)
theorem Iv.mono {g:Nat}{x y:ByteArray}{W W':World}(h:Iv g x y W)(hb:Below W.heap.size W W'):Iv g x y W' :=
 ⟨Nat.lt_of_lt_of_le h.1 hb.size,(hb.cell (p:=⟨g,0,none⟩) h.1).trans h.2.1,(hb.cell (p:=⟨g,1,none⟩) h.1).trans h.2.2⟩
def hcells (q:Nat→Rat) (m:Nat):List Value:=(List.range m).map fun j => .string (Sq (q j))
theorem max_r {a c:Rat}(h:a≤c):(exOf (row2 a c) 1).2=c:=by
 have h1:=row2_in a c
 have h2:=row2_one a c
 grind
theorem min_r {a c:Rat}(h:c≤a):(exOf (row2 a c) 1).1=c:=by
 have h1:=row2_in a c
 have h2:=row2_one a c
 grind
theorem fit_row2 {p q:Rat}(hp:FitQ p)(hq:FitQ q):FitQ (exOf (row2 p q) 1).1∧FitQ (exOf (row2 p q) 1).2 :=
 exOf_fit (row2 p q) 1 (fun j hj=>match j,hj with
  | 0,_=>hp
  | 1,_=>hq)
theorem iMeet (a b c d p q:Rat)(hp:(exOf (row2 a c) 1).2=p)(hq:(exOf (row2 b d) 1).1=q)(h1:a≤b)(h2:c≤d)(h3:p≤q)(ha:FitQ a)(hb:FitQ b)(hc:FitQ c)(hd:FitQ d)(w:World)(hl:La w) :
 CR 18 #[Vq a b,Vq c d] w (.tuple #[Vq p q,.bool true]):=by
 have f1:=(fit_row2 ha hc).2
 have f2:=(fit_row2 hb hd).1
 rw[hp]at f1
 rw[hq]at f2
 refine iMeet_raw _ _ _ _ (Sq (exOf (row2 a c) 1).1) _ _ (Sq (exOf (row2 b d) 1).2) (cmpQ p q) (by
  have:=cmp_le h3
  rw[decide_eq_false_iff_not];omega) w hl (fun W hW=>iValid_yes a b h1 ha hb W hW) (fun W hW=>iValid_yes c d h2 hc hd W hW) (fun W g hW hg c0 c1=>?_) (fun W g hW hg c0 c1=>?_) (fun W hW=>iOrder p q _ rfl f1 f2 W hW)
 · have h:=ext2 a c ha hc W g hW hg c0 c1
   rwa [hp]at h
 · have h:=ext2 b d hb hd W g hW hg c0 c1
   rwa [hq]at h
theorem xValid_yes (x y:Rat)(h:x≤y)(hx:FitQ x)(hy:FitQ y)(w:World)(hl:La w) :
 CR 15 #[.agg #[.string (Sq x),.string (Sq y)]] w (.bool true):=iValid_yes x y h hx hy w hl
theorem xAdd (a b c d s t:Rat)(hs:a+c=s)(ht:b+d=t)(h1:a≤b)(h2:c≤d)(ha:FitQ a)(hb:FitQ b)(hc:FitQ c)(hd:FitQ d)(w:World)(hl:La w) :
 CR 21 #[.agg #[.string (Sq a),.string (Sq b)],.agg #[.string (Sq c),.string (Sq d)]] w (.tuple #[.agg #[.string (Sq s),.string (Sq t)],.int .i64 0]):=iAdd a b c d s t hs ht h1 h2 ha hb hc hd w hl
theorem xMul (a b c d p0 p1 p2 p3:Rat)(e0:a*c=p0)(e1:a*d=p1)(e2:b*c=p2)(e3:b*d=p3)(h1:a≤b)(h2:c≤d)(ha:FitQ a)(hb:FitQ b)(hc:FitQ c)(hd:FitQ d)(f0:FitQ p0)(f1:FitQ p1)(f2:FitQ p2)(f3:FitQ p3)(w:World)(hl:La w) :
 CR 20 #[.agg #[.string (Sq a),.string (Sq b)],.agg #[.string (Sq c),.string (Sq d)]] w (.tuple #[.agg #[.string (Sq (exOf (row4 p0 p1 p2 p3) 3).1),.string (Sq (exOf (row4 p0 p1 p2 p3) 3).2)],.int .i64 0]):=iMul a b c d p0 p1 p2 p3 e0 e1 e2 e3 h1 h2 ha hb hc hd f0 f1 f2 f3 w hl
theorem xExact (x:Rat)(hx:FitQ x)(w:World)(hl:La w) :
 CR 28 #[.string (Sq x)] w (.tuple #[.agg #[.string (Sq x),.string (Sq x)],.int .i64 0]):=iExact x hx w hl
theorem xRound {k:Nat}(a b:Rat)(n:Int)(hk:k≤400)(h:a≤b)(ha:SmQ k a)(hb:SmQ k b)(hn1:1≤n)(hn2:n≤1000000000)(w:World)(hl:La w) :
 CR 12 #[.agg #[.string (Sq a),.string (Sq b)],.int .i64 n] w (.tuple #[.agg #[.string (Sq (rdQ a n)),.string (Sq (0-rdQ (0-b) n))],.int .i64 0]):=iRound a b n hk h ha hb hn1 hn2 w hl
theorem xMeet (a b c d p q:Rat)(hp:(exOf (row2 a c) 1).2=p)(hq:(exOf (row2 b d) 1).1=q)(h1:a≤b)(h2:c≤d)(h3:p≤q)(ha:FitQ a)(hb:FitQ b)(hc:FitQ c)(hd:FitQ d)(w:World)(hl:La w) :
 CR 18 #[.agg #[.string (Sq a),.string (Sq b)],.agg #[.string (Sq c),.string (Sq d)]] w (.tuple #[.agg #[.string (Sq p),.string (Sq q)],.bool true]):=iMeet a b c d p q hp hq h1 h2 h3 ha hb hc hd w hl
theorem floor_of {q:Rat}{z:Int}(h1:(z:Rat)≤q)(h2:q<(z:Rat)+1):q.floor=z:=by
 apply Int.le_antisymm
 · have:q.floor<z+1:=Rat.floor_lt_iff.2 (by rw[Rat.intCast_add];exact h2)
   omega
 · exact Rat.le_floor_iff.2 h1
theorem div_mul_n {a:Rat}{n:Nat}(hn:1≤n):a / ((n:Nat):Rat)*((n:Nat):Rat)=a:=Rat.div_mul_cancel (nat_ne0 hn)
theorem rd_low {x:Rat}{n:Nat}(hn:1≤n):rdQ (nearQ x n) (n:Int)=(eK x n:Rat) / (n:Rat):=by
 rw[rdQ_eq]
 have e:(((n:Nat):Int):Rat)=((n:Nat):Rat):=rfl
 have ek:(((eK x n:Nat):Int):Rat)=((eK x n:Nat):Rat):=rfl
 rw[e]
 have hf:(nearQ x n*((n:Nat):Rat)).floor=((eK x n:Nat):Int):=by
  unfold nearQ
  split
  · rw[div_mul_n hn]
    exact floor_of (by rw[ek];exact Rat.le_refl) (by rw[ek];grind)
  · rw[div_mul_n hn]
    exact floor_of (by rw[ek];grind) (by rw[ek];grind)
 rw[hf,ek]
theorem rd_high {x:Rat}{n:Nat}(hn:1≤n):0-rdQ (0-nearQ x n) (n:Int)=(eH x n:Rat) / (n:Rat):=by
 rw[rdQ_eq]
 have e:(((n:Nat):Int):Rat)=((n:Nat):Rat):=rfl
 have ek:(((eK x n:Nat):Int):Rat)=((eK x n:Nat):Rat):=rfl
 rw[e]
 have eh:(((eH x n:Nat):Int):Rat)=((eH x n:Nat):Rat):=rfl
 have hf:((0-nearQ x n)*((n:Nat):Rat)).floor = -((eH x n:Nat):Int):=by
  have em:(0-nearQ x n)*((n:Nat):Rat) = -(nearQ x n*((n:Nat):Rat)):=by grind
  rw[em]
  unfold nearQ eH
  split
  · rw[div_mul_n hn]
    exact floor_of (by rw[Rat.intCast_neg,ek];exact Rat.le_refl) (by rw[Rat.intCast_neg,ek];grind)
  · rw[div_mul_n hn]
    have ek1:(((eK x n+1:Nat):Int):Rat)=((eK x n:Nat):Rat)+1:=by rw[Rat.intCast_natCast,Rat.natCast_add];rfl
    exact floor_of (by rw[Rat.intCast_neg,ek1];grind) (by rw[Rat.intCast_neg,ek1];grind)
 rw[hf,Rat.intCast_neg,eh]
 grind
theorem near_mono {x y:Rat}{n:Nat}(hx:0≤x)(hxy:x≤y)(hn:1≤n):nearQ x n≤nearQ y n:=by
 have hy:0≤y:=by grind
 have hp:=rnat_pos hn
 have hnn:(0:Rat)≤(n:Rat)*(n:Rat):=Rat.mul_nonneg (rnat_nonneg n) (rnat_nonneg n)
 have hm:x*((n:Rat)*(n:Rat))≤y*((n:Rat)*(n:Rat)):=Rat.mul_le_mul_of_nonneg_right hxy hnn
 have⟨a1,a2⟩:=eK_spec (n:=n) hx
 have⟨b1,b2⟩:=eK_spec (n:=n) hy
 have hk:eK x n≤eK y n:=eK_ge hy (by grind)
 have hkr:=rnat_le.2 hk
 unfold nearQ
 split
 · split
   · exact div_le_div hp hkr
   · exact div_le_div hp (by grind)
 · rename_i h1
   split
   · rename_i h2
     refine div_le_div hp ?_
     have e2:=of_decide_eq_true h2
     have hne:eK x n≠eK y n:=by
        intro he
        apply h1
        refine decide_eq_true ?_
        rw[he]at a1 ⊢
        grind
     have hlt:eK x n+1≤eK y n:=by omega
     have hlr:=rnat_le.2 hlt
     rw[Rat.natCast_add]at hlr
     have:((1:Nat):Rat)=1:=rfl
     grind
   · exact div_le_div hp (by grind)
theorem oOf_n {x y:Rat}{n k:Nat}(h0:0≤x)(hxy:x≤y)(hx:SmQ k x)(hy:SmQ k y)(hk:1≤k)(hk2:k≤350)(hn1:1≤n)(hn2:n≤1000000000)(w:World)(hla:La w) :
 CV w 24 #[.agg #[.string (Sq x),.string (Sq y)],.int .i64 (n:Int)] (.tuple #[.agg #[.string (Sq ((eK x n:Rat) / (n:Rat))),.string (Sq ((eH y n:Rat) / (n:Rat)))],.int .i64 0]):=by
 have hn:Sm 10 n:=by
  have h:(1000000000:Nat)<10^10:=by decide
  exact Nat.lt_of_le_of_lt hn2 h
 have hy0:0≤y:=by grind
 have s1:=sm_near h0 hx hn hn1 hk
 have s2:=sm_near hy0 hy hn hn1 hk
 have cv:CV w 15 #[.agg #[.string (Sq x),.string (Sq y)]] (.bool true):=fun W hW=>xValid_yes x y hxy (hx.fit (by omega)) (hy.fit (by omega)) W (hla.on hW)
 have cs:=osign_n hx (by omega) w hla
 have c1:=onear_n h0 hx hk hk2 hn1 hn2 w hla
 have c2:=onear_n hy0 hy hk hk2 hn1 hn2 w hla
 have cr:CV w 12 #[.agg #[.string (Sq (nearQ x n)),.string (Sq (nearQ y n))],.int .i64 (n:Int)] (.tuple #[.agg #[.string (Sq ((eK x n:Rat) / (n:Rat))),.string (Sq ((eH y n:Rat) / (n:Rat)))],.int .i64 0]):=fun W hW=>by
  have h:=xRound (nearQ x n) (nearQ y n) (n:Int) (k:=k+33) (by omega) (near_mono h0 hxy hn1) s1 s2 (by omega) (by omega) W (hla.on hW)
  rw[rd_low hn1,rd_high hn1]at h
  exact h
 by_cases he:x=y
 · subst he
   exact oof_same _ _ _ _ _ _ w cv cs c1 cr (cmp0_nonneg h0) (by omega) (by omega)
 · exact oof_diff _ _ _ _ _ _ _ _ w cv cs c1 c2 cr (cmp0_nonneg h0) (sq_neq (fun h=>he h.symm)) (by omega) (by omega)
theorem oSqrt_n {x:Rat}{n k:Nat}(h0:0≤x)(hx:SmQ k x)(hk:1≤k)(hk2:k≤350)(hn1:1≤n)(hn2:n≤1000000000)(w:World)(hla:La w) :
 CV w 9 #[.string (Sq x),.int .i64 (n:Int)] (.tuple #[.agg #[.string (Sq ((eK x n:Rat) / (n:Rat))),.string (Sq ((eH x n:Rat) / (n:Rat)))],.int .i64 0]) :=
 osqrt_raw _ _ _ _ _ w (fun W hW=>xExact x (hx.fit (by omega)) W (hla.on hW)) (oOf_n h0 Rat.le_refl hx hx hk hk2 hn1 hn2 w hla)
theorem oSqrt_neg {x:Rat}{n k:Nat}(h0:x<0)(hx:SmQ k x)(hk2:k≤350)(w:World)(hla:La w) :
 CV w 9 #[.string (Sq x),.int .i64 (n:Int)] (.tuple #[.agg #[.string ⟨#[]⟩,.string ⟨#[]⟩],.int .i64 2]):=by
 have h:=osign_n hx (by omega) w hla
 rw[cmpQ_lt h0]at h
 exact osqrt_raw _ _ _ _ _ w (fun W hW=>xExact x (hx.fit (by omega)) W (hla.on hW)) (oof_neg _ _ _ w (fun W hW=>xValid_yes x x Rat.le_refl (hx.fit (by omega)) (hx.fit (by omega)) W (hla.on hW)) h)
end Go.Proofs.YtggoeabhbkbadaaGreatDoor
