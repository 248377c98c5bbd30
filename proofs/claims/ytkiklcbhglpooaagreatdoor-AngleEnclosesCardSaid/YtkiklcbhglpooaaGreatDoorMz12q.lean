/- texts -/
import Derived.Test.YtkiklcbhglpooaaGreatDoorMz11q
import Derived.Test.YtkiklcbhglpooaaGreatDoorMz9q
open Go.Proofs.Tryz
set_option maxRecDepth 100000
set_option maxHeartbeats 20000000
open Go.Lib (hid)
namespace Go.Proofs.YtkiklcbhglpooaaGreatDoor
open Go.RowKit Go.Gb
theorem yF {B:Nat}{w:World}{a:Option Addr}{n c:Nat}{xs:List Nat}(h:Gb.Own .u64 133 B w (.slice a n c) xs)(hp:0<n):∃ g,a=some ⟨g,0,none⟩∧n=xs.length∧B≤g∧g<w.heap.size:=by
 obtain⟨h1,h2⟩:=h;rcases h2 with⟨h2,_⟩|⟨g,cap,cur,hv,hg,hh,_⟩
 · injection h2 with e1 e2 e3;omega
 · injection hv with e1 e2 e3
   exact⟨g,e1,e2,hg,(Array.getElem?_eq_some_iff.1 hh).1⟩
theorem yG {B:Nat}{w:World}{g n c:Nat}{xs:List Nat}(h:Gb.Own .u64 133 B w (.slice (some ⟨g,0,none⟩) n c) xs)(hn:n=xs.length){i:Nat}(hi:i<n):w.cell? ⟨g,i,none⟩=some (.int .u64 ((xs.getD i 0:Nat):Int)):=by
 subst hn;have:=World.ownsRow.cellAt (w:=w) (size:=1) h i (by omega);rw[this];exact jG hi
theorem yE {B:Nat}{w:World}{g n c:Nat}{xs:List Nat}(h:Gb.Own .u64 133 B w (.slice (some ⟨g,0,none⟩) n c) xs)(hn:n=xs.length)(i:Nat):w.frozen? ⟨g,i,none⟩=false:=by
 subst hn;exact World.ownsRow.frozenAt (w:=w) (size:=1) h i
theorem tZ {B:Nat}{w:World}{g n c:Nat}{xs:List Nat}(h:Gb.Own .u64 133 B w (.slice (some ⟨g,0,none⟩) n c) xs)(hn:n=xs.length)(i r:Nat):Gb.Own .u64 133 B (w.setCell ⟨g,i,none⟩ (.int .u64 (r:Int))) (.slice (some ⟨g,0,none⟩) n c) (xs.set i r):=by
 subst hn;have:=(World.ownsRow.stored (w:=w) (size:=1) h i (.int .u64 (r:Int))).1;unfold Gb.Own
 rw[rW,List.length_set];exact this
theorem u7 {B:Nat}{w:World}{v:Value}{xs:List Nat}(h:Gb.Own .u64 133 B w v xs){g:Nat}(hg:¬ At v g)(i:Nat)(u:Value):Gb.Own .u64 133 B (w.setCell ⟨g,i,none⟩ u) v xs :=
 h.kp (S:=fun k=>k=g) ((Kp.refl (fun k=>k=g) w).set (p:=⟨g,i,none⟩) (fun _=>rfl) u) (fun _ hk e=>hg (e▸hk))
theorem tF (w:World)(p:Addr)(u:Value):(w.setCell p u).heap.size=w.heap.size:=by simp[World.setCell]
theorem z0P (ys r:List Nat)(x:Nat):(ys++(x :: r)).getD ys.length 0=x:=by simp[List.getD]
theorem z0O (ys r:List Nat)(x v:Nat):(ys++(x :: r)).set ys.length v=(ys++[v])++r:=by simp
theorem ze {p q:Int}{X Y os:List Nat}{i:Nat}{k:Int}(h:mE p q X Y os i k)(hx:X.getD i 0<BB)(hy:Y.getD i 0<BB)(hp1 : -1000000000≤p)(hp2:p≤1000000000)(hq1 : -1000000000≤q)(hq2:q≤1000000000) :
 ∃ (r:Nat) (j:Int),mE p q X Y (os++[r]) (i+1) j∧r<1000000000 ∧ -3000000000≤j∧j≤3000000000 ∧
   ∀ W,Calls Tryz.prog 303 #[.int .i64 (p*(X.getD i 0:Int)+q*(Y.getD i 0:Int)+k)] W fun e w'=>e=.returned (.tuple #[.int .u64 (r:Int),.int .i64 j])∧W=w':=by
 obtain⟨b0,b1,hb⟩:=h.step hx hy hp1 hp2 hq1 hq2;refine⟨_,_,hb,by omega,hb.2.2.1,hb.2.2.2.1,fun W=>?_⟩;have hs:=z0B _ b0 b1 W;rw[Int.toNat_of_nonneg (Int.emod_nonneg _ (by decide))];exact hs
theorem jH (B:Nat)(v1 v2:Value)(xs ys:List Nat)(a b c d:Int)(z1 z2:Nat)(w:World)
 (ha1 : -1000000000≤a) (ha2:a≤1000000000) (hb1 : -1000000000≤b) (hb2:b≤1000000000) (hc1 : -1000000000≤c) (hc2:c≤1000000000) (hd1 : -1000000000≤d) (hd2:d≤1000000000)
 (hx:∀ x∈xs,x<BB) (hy:∀ y∈ys,y<BB) (hlx:xs.length≤90000) (hly:ys.length≤90000)
 (e1:a*(ai xs:Int)+b*(ai ys:Int)=(z1:Int)) (e2:c*(ai xs:Int)+d*(ai ys:Int)=(z2:Int))
 (h1:Gb.Own .u64 133 B w v1 xs) (h2:Gb.Own .u64 133 B w v2 ys) (hs:Apt v1 v2) (hB:B≤w.heap.size) :
 Calls Tryz.prog 290 #[v1,v2,.int .i64 a,.int .i64 b,.int .i64 c,.int .i64 d] w fun e w'=>∃ u1 u2,e=.returned (.tuple #[u1,u2])∧Gb.Own .u64 133 B w' u1 (ae z1)∧Gb.Own .u64 133 B w' u2 (ae z2) ∧
  Apt u1 u2∧gm w v1 u1∧gm w v2 u2∧Kp (fun g=>At v1 g∨At v2 g) w w':=by
 obtain⟨n,hn⟩:∃ n,n=max xs.length ys.length:=⟨_,rfl⟩;have hmx:max (xs.length:Int) (ys.length:Int)=(n:Int):=by omega
 obtain⟨X,hX⟩:∃ X,X=xs++List.replicate (n-xs.length) 0:=⟨_,rfl⟩;obtain⟨Y,hY⟩:∃ Y,Y=ys++List.replicate (n-ys.length) 0:=⟨_,rfl⟩;have hXl:X.length=n:=by rw[hX,List.length_append,List.length_replicate];omega
 have hYl:Y.length=n:=by rw[hY,List.length_append,List.length_replicate];omega
 have hXB:∀ x∈X,x<BB:=by
  intro x hx';rw[hX]at hx';rcases List.mem_append.1 hx' with h|h
  · exact hx x h
  · rw[(List.mem_replicate.1 h).2];exact bN
 have hYB:∀ y∈Y,y<BB:=by
  intro y hy';rw[hY]at hy';rcases List.mem_append.1 hy' with h|h
  · exact hy y h
  · rw[(List.mem_replicate.1 h).2];exact bN
 have hXv:ai X=ai xs:=by rw[hX];exact eU xs _
 have hYv:ai Y=ai ys:=by rw[hY];exact eU ys _
 rw[← hXv,← hYv]at e1 e2
 have HP1:=hid (show ∀ W,Gb.Own .u64 133 B W v1 xs→B≤W.heap.size→Calls Tryz.prog 302 #[v1,.int .i64 (n:Int)] W fun e w'=>∃ u,e=.returned u∧Gb.Own .u64 133 B w' u X∧gm W v1 u∧Kp (At v1) W w' from
  fun W h hBW=>by rw[hX];exact z18 B v1 xs n (by omega) (by omega) W h hBW)
 have HP2:=hid (show ∀ W,Gb.Own .u64 133 B W v2 ys→B≤W.heap.size→Calls Tryz.prog 302 #[v2,.int .i64 (n:Int)] W fun e w'=>∃ u,e=.returned u∧Gb.Own .u64 133 B w' u Y∧gm W v2 u∧Kp (At v2) W w' from
  fun W h hBW=>by rw[hY];exact z18 B v2 ys n (by omega) (by omega) W h hBW)
 have hn9:n≤90000:=by omega
 obtain⟨a1,c1,rfl⟩:=aX h1.rd;obtain⟨a2,c2,rfl⟩:=aX h2.rd;obtain ⟨HXB,HYB,HXL,HYL,HE1,HE2,H1,H2,HS⟩:=bZ hXB hYB hXl hYl e1 e2 h1 h2 hs;have HB:=hid hB;clear hn hX hY hXl hYl hXB hYB hXv hYv e1 e2 h1 h2 hs hB hx hy;go_enter func290,ntmps290
 go_wp2_with fail
 refine(HP1.o _ H1.o HB.o).mono ?_;rintro e w1 ⟨u1,rfl,ho1,hno1,hk1⟩;have ho2:=H2.o.kp hk1 (fun g h h'=>HS.o g h' h);have hs1:Apt u1 (.slice a2 ys.length c2):=HS.o.newOr hno1 (fun g hg=>(H2.o.at hg).2);obtain ⟨HO1,HO2,HN1,HK1,HS1⟩:=bD ho1 ho2 hno1 hk1 hs1;clear ho1 ho2 hno1 hk1 hs1;go_wp2_with fail
 refine(HP2.o _ HO2.o (Nat.le_trans HB.o HK1.o.size)).mono ?_;rintro e w2 ⟨u2,rfl,ho2,hno2,hk2⟩;have ho1:=HO1.o.kp hk2 (fun g h h'=>HS1.o g h h');have hs2:Apt u1 u2:=(HS1.o.symm.newOr hno2 (fun g hg=>(HO1.o.at hg).2)).symm;have HN2:=hid (show gm w (.slice a2 ys.length c2) u2 from(gm.refl w _).trans hno2 HK1.o.size);have HK2:=hid (show Kp (fun g=>At (.slice a1 xs.length c1) g∨At (.slice a2 ys.length c2) g) w w2 from(HK1.o.mono (fun _ h=>Or.inl h)).trans hk2 (fun _ _ h=>Or.inr h));obtain⟨b1,k1,rfl⟩:=aX ho1.rd;obtain⟨b2,k2,rfl⟩:=aX ho2.rd;rw[HXL.o]at ho1 hs2 HN1;rw[HYL.o]at ho2 hs2 HN2;rw[HXL.o,HYL.o];obtain ⟨HO1,HO2,HS2⟩:=au ho1 ho2 hs2;clear ho1 ho2 hno2 hk2 hs2 HP1 HP2 HS1 HK1;go_wp2
 go_loopw [15,16,17,18,19,20,34] (fun f1 f2 _ _ _ _ ii wr=>∃ (i:Nat) (j1 j2:Int) (o1 o2:List Nat),i≤n∧ii=.int .i64 (i:Int)∧f1=.int .i64 j1∧f2=.int .i64 j2∧Hid (mE a b X Y o1 i j1)∧Hid (mE c d X Y o2 i j2) ∧
  Hid (Gb.Own .u64 133 B wr (.slice b1 n k1) (o1++X.drop i))∧Hid (Gb.Own .u64 133 B wr (.slice b2 n k2) (o2++Y.drop i))∧Hid (Kp (fun g=>At (.slice a1 xs.length c1) g∨At (.slice a2 ys.length c2) g) w wr)∧Hid (w2.heap.size=wr.heap.size)) (fun _ _ _ _ _ _ ii _=>n-(intOf ii).toNat)
 case atStart=>exact⟨0,0,0,[],[],Nat.zero_le _,rfl,rfl,rfl,mE.start _ _ _ _,mE.start _ _ _ _,by rw[List.drop_zero];exact HO1.o,by rw[List.drop_zero];exact HO2.o,HK2.o,rfl⟩
 case round =>
  obtain⟨i,j1,j2,o1,o2,hi,rfl,rfl,rfl,hi1,hi2,hO1,hO2,hK,hZ⟩:=hrel;clear HO1 HO2 HK2;by_cases hlt:i<n
  · obtain⟨g1,rfl,hl1,hg1B,hg1⟩:=yF hO1.o (by omega)
    obtain⟨g2,rfl,hl2,hg2B,hg2⟩:=yF hO2.o (by omega);have hne:g1≠g2:=fun e=>HS2.o g1 (fI.2 rfl) (fI.2 e.symm);have hne':¬ g2=g1:=fun e=>hne e.symm;have ol1:=hi1.o.1;have ol2:=hi2.o.1;have x9:=getD_lt HXB.o i;have y9:=getD_lt HYB.o i;obtain⟨r1,m1,hn1,hr1,ml1,mu1,hs1⟩:=ze hi1.o x9 y9 ha1 ha2 hb1 hb2;obtain⟨r2,m2,hn2,hr2,ml2,mu2,hs2⟩:=ze hi2.o x9 y9 hc1 hc2 hd1 hd2;have q1:=Go.Gb.prod_bound ha1 ha2 x9;have q2:=Go.Gb.prod_bound hb1 hb2 y9;have q3:=Go.Gb.prod_bound hc1 hc2 x9;have q4:=Go.Gb.prod_bound hd1 hd2 y9;have jl1:=hi1.o.2.2.1;have ju1:=hi1.o.2.2.2.1;have jl2:=hi2.o.2.2.1;have ju2:=hi2.o.2.2.2.1;have dx:X.drop i=X.getD i 0 :: X.drop (i+1):=eY (by rw[HXL.o];exact hlt);have dy:Y.drop i=Y.getD i 0 :: Y.drop (i+1):=eY (by rw[HYL.o];exact hlt);have P1:=hO1.o;have P2:=hO2.o;rw[dx]at P1 hl1;rw[dy]at P2 hl2;have cx:=yG P1 hl1 (i:=i) hlt;have cy:=yG P2 hl2 (i:=i) hlt;have fx:=yE P1 hl1 i;have fy:=yE P2 hl2 i;have gx:=z0P o1 (X.drop (i+1)) (X.getD i 0);have gy:=z0P o2 (Y.drop (i+1)) (Y.getD i 0);rw[ol1]at gx;rw[ol2]at gy;rw[gx]at cx;rw[gy]at cy;have w1':=tZ P1 hl1 i r1;have sx:=z0O o1 (X.drop (i+1)) (X.getD i 0) r1;have sy:=z0O o2 (Y.drop (i+1)) (Y.getD i 0) r2;rw[ol1]at sx;rw[ol2]at sy;rw[sx]at w1';have nA2:¬ At (.slice (some ⟨g2,0,none⟩) n k2) g1:=fun h=>hne' (fI.1 h);have nA1:¬ At (.slice (some ⟨g1,0,none⟩) n k1) g2:=fun h=>hne (fI.1 h);have w2':=tZ (u7 P2 nA2 i (.int .u64 (r1:Int))) hl2 i r2;rw[sy]at w2';obtain ⟨HW1,HW2⟩:=aD (u7 w1' nA1 i (.int .u64 (r2:Int))) w2'
    have kk:Kp (fun g=>At (.slice a1 xs.length c1) g∨At (.slice a2 ys.length c2) g) w ((wr.setCell ⟨g1,i,none⟩ (.int .u64 (r1:Int))).setCell ⟨g2,i,none⟩ (.int .u64 (r2:Int))):=by
        refine(hK.o.set (p:=⟨g1,i,none⟩) (fun hlt=>?_) _).set (p:=⟨g2,i,none⟩) (fun hlt=>?_) _
        · rcases HN1.o g1 (fI.2 rfl) with h|h
          · exact Or.inl h
          · exact absurd hlt (by show ¬ g1<_;omega)
        · rcases HN2.o g2 (fI.2 rfl) with h|h
          · exact Or.inr h
          · exact absurd hlt (by show ¬ g2<_;omega)
    obtain ⟨HKK,HN1',HN2',HS1,HSS2⟩:=bD kk hn1 hn2 hs1 hs2;clear P1 P2 w1' w2' sx sy gx gy dx dy kk hn1 hn2 hs1 hs2 ol1 ol2 hl1 hl2 hO1 hO2 hi1 hi2 hK nA1 nA2;rw[aH]at x9 y9;generalize X.getD i 0=x at *;generalize Y.getD i 0=y at *;obtain⟨pa,hpa⟩:∃ t,t=a*(x:Int):=⟨_,rfl⟩;obtain⟨pb,hpb⟩:∃ t,t=b*(y:Int):=⟨_,rfl⟩;obtain⟨pc,hpc⟩:∃ t,t=c*(x:Int):=⟨_,rfl⟩;obtain⟨pd,hpd⟩:∃ t,t=d*(y:Int):=⟨_,rfl⟩;rw[← hpa,← hpb]at HS1;rw[← hpc,← hpd]at HSS2;rw[← hpa]at q1;rw[← hpb]at q2;rw[← hpc]at q3;rw[← hpd]at q4;have ea:=hpa.symm;have eb:=hpb.symm;have ec:=hpc.symm;have ed:=hpd.symm;obtain⟨q1l,q1u⟩:=q1;obtain⟨q2l,q2u⟩:=q2;obtain⟨q3l,q3u⟩:=q3;obtain⟨q4l,q4u⟩:=q4;have v1:IntKind.i64.wrap pa=pa:=IntWalk.i64_in _ (by omega);have v2:IntKind.i64.wrap pb=pb:=IntWalk.i64_in _ (by omega);have v3:IntKind.i64.wrap pc=pc:=IntWalk.i64_in _ (by omega);have v4:IntKind.i64.wrap pd=pd:=IntWalk.i64_in _ (by omega);have v5:IntKind.i64.wrap (pa+pb)=pa+pb:=IntWalk.i64_in _ (by omega);have v6:IntKind.i64.wrap (pa+pb+j1)=pa+pb+j1:=IntWalk.i64_in _ (by omega);have v7:IntKind.i64.wrap (pc+pd)=pc+pd:=IntWalk.i64_in _ (by omega);have v8:IntKind.i64.wrap (pc+pd+j2)=pc+pd+j2:=IntWalk.i64_in _ (by omega);clear hpa hpb hpc hpd;go_wp2_with fail
    refine(HS1.o _).mono ?_;rintro e w' ⟨rfl,rfl⟩;go_wp2_with fail
    refine(HSS2.o _).mono ?_;rintro e w' ⟨rfl,rfl⟩;clear v1 v2 v3 v4 v5 v6 v7 v8 ea eb ec ed;go_wp2;go_roundw
    case rel=>exact⟨i+1,m1,m2,o1++[r1],o2++[r2],by omega,by go_num,rfl,rfl,HN1',HN2',HW1,HW2,HKK,by show w2.heap.size=_;rw[tF,tF];exact hZ.o⟩
    case measure=>simp[intOf];omega
  · obtain rfl:i=n:=by omega
    obtain⟨z1n,hw1,hlt1⟩:=hi1.o.done (by rw[HXL.o];exact Nat.le_refl _) (by rw[HYL.o];exact Nat.le_refl _) HE1.o;obtain⟨z2n,hw2,hlt2⟩:=hi2.o.done (by rw[HXL.o];exact Nat.le_refl _) (by rw[HYL.o];exact Nat.le_refl _) HE2.o;have ju1:=hi1.o.2.2.2.1;have ju2:=hi2.o.2.2.2.1;have ol1:=hi1.o.1;have ol2:=hi2.o.1;obtain⟨m1,rfl⟩:=Int.eq_ofNat_of_zero_le z1n;obtain⟨m2,rfl⟩:=Int.eq_ofNat_of_zero_le z2n;rw[Int.toNat_natCast]at hw1 hlt1 hw2 hlt2;have P1:=hO1.o;have P2:=hO2.o;rw[List.drop_of_length_le (by rw[HXL.o];exact Nat.le_refl _),List.append_nil]at P1;rw[List.drop_of_length_le (by rw[HYL.o];exact Nat.le_refl _),List.append_nil]at P2;have hBw:B≤wr.heap.size:=Nat.le_trans HB.o hK.o.size;have A1:=hid (jI B _ o1 m1 (by omega) (by omega) wr P1 hBw);obtain ⟨HP2,HP1,L1,L2,W1,W2⟩:=dh P2 P1 hlt1 hlt2 hw1 hw2;have hm2:m2≤3000000000:=by omega
    have ho2l:o2.length≤100000:=by omega
    have u6:=hid hBw;clear P1 P2 hlt1 hlt2 hw1 hw2 z1n z2n ju1 ju2 ol1 ol2 hBw hO1 hO2 hi1 hi2;go_wp2_with fail
    refine A1.o.mono ?_;rintro e w3 ⟨u3,rfl,ho3,hno3,hk3⟩;have T1:=hid (z2h B u3 _ L1.o w3 ho3);rw[W1.o]at T1;have P2':=HP2.o.kp hk3 (fun g h h'=>HS2.o g h' h);have hs3:Apt u3 (.slice b2 i k2):=HS2.o.newOr hno3 (fun g hg=>(HP2.o.at hg).2);have A2:=hid (jI B _ o2 m2 hm2 ho2l w3 P2' (Nat.le_trans u6.o hk3.size));obtain ⟨HNO3,HK3,HS3,HO3,HPP2⟩:=bD hno3 hk3 hs3 ho3 P2';clear ho3 hno3 hk3 hs3 P2';go_wp2_with fail
    refine T1.o.mono ?_;rintro e w' ⟨t1,rfl,hot1,hat1,rfl⟩;obtain ⟨HT1,HA1⟩:=aD hot1 hat1;clear hot1 hat1;go_wp2_with fail
    refine A2.o.mono ?_;rintro e w4 ⟨u4,rfl,ho4,hno4,hk4⟩;have T2:=hid (z2h B u4 _ L2.o w4 ho4);rw[W2.o]at T2;obtain ⟨HNO4,HK4⟩:=aD hno4 hk4;clear ho4 hno4 hk4;go_wp2_with fail
    refine T2.o.mono ?_;rintro e w' ⟨t2,rfl,hot2,hat2,rfl⟩;obtain ⟨HT2,HA2⟩:=aD hot2 hat2;clear hot2 hat2;go_wp2;go_ret2
    have zz:=hZ.o;have z3:=HK3.o.size;have zw:=hK.o.size;have zz2:w.heap.size≤w2.heap.size:=by omega
    refine⟨t1,t2,rfl,HT1.o.kp HK4.o (fun g h h'=>HS3.o g (HA1.o g h) h'),HT2.o,?_,?_,?_,?_⟩
    · intro g h h'
      exact(HS3.o.symm.newOr HNO4.o (fun g hg=>(HO3.o.at hg).2)) g (HA2.o g h') (HA1.o g h)
    · intro g h
      rcases HNO3.o g (HA1.o g h) with h'|h'
      · exact HN1.o g h'
      · right;omega
    · intro g h
      rcases HNO4.o g (HA2.o g h) with h'|h'
      · exact HN2.o g h'
      · right;omega
    · refine(hK.o.trans (HK3.o) (fun g hg h=>?_)).trans HK4.o (fun g hg h=>?_)
      · rcases HN1.o g h with h'|h'
        · exact Or.inl h'
        · omega
      · rcases HN2.o g h with h'|h'
        · exact Or.inr h'
        · omega
end Go.Proofs.YtkiklcbhglpooaaGreatDoor
open Go.Lib (hid)
namespace Go.Gb
theorem ky {xs:List Nat}{i:Nat}(h:xs.length≤i):xs.getD i 0=0:=by simp[List.getD,h]
theorem iq {xs:List Nat}(h:∀ x∈xs,x<BB)(i:Nat):xs.getD i 0<BB:=by
 by_cases hi:i<xs.length
 · exact h _ (bi hi)
 · rw[ky (by omega)];exact bN
theorem di.end0 {x y os:List Nat}{i:Nat}(h:di x y os i 0)(hx:x.length≤i)(hy:y.length≤i):ai os=ai x+ai y∧∀ w∈os,w<BB:=by
 obtain⟨h1,h2,h3,h4⟩:=h;rw[List.take_of_length_le hx,List.take_of_length_le hy]at h4;exact⟨by omega,h2⟩
open Go.RowKit in
theorem Rd.gen {k:IntKind}{w:World}{v:Value}{xs:List Nat}(h:Rd k w v xs):∃ p c,v=.slice p xs.length c∧∀ i,i<xs.length→∃ b o,p=some ⟨b,o,none⟩∧b<w.heap.size∧w.cell? ⟨b,o+i,none⟩=some (.int k ((xs.getD i 0:Nat):Int)):=by
 rcases h with⟨rfl,rfl⟩|⟨b,o,c,rfl,_,_,hb,hc⟩
 · exact⟨none,0,rfl,fun i hi=>by simp at hi⟩
 · exact⟨some ⟨b,o,none⟩,c,rfl,fun i hi=>⟨b,o,rfl,hb,hc i hi⟩⟩
end Go.Gb
namespace Go.Proofs.YtkiklcbhglpooaaGreatDoor
open Go.RowKit Go.Gb
theorem z2j (v1 v2:Value)(a b:Nat)(hla:(ae a).length≤100000)(hlb:(ae b).length≤100000)(w:World)(h1:Rd .u32 w v1 (ae a))(h2:Rd .u32 w v2 (ae b)) :
 Calls Tryz.prog 127 #[v1,v2] w fun e w'=>∃ v,e=.returned v∧Gb.Own .u32 92 w.heap.size w' v (ae (a+b))∧Below w.heap.size w w':=by
 obtain⟨i0,hi,hz0,hz1,hz2⟩:=info_parts Tryz.info92;obtain⟨p1,c1,rfl,r1⟩:=h1.gen;obtain⟨p2,c2,rfl,r2⟩:=h2.gen;have hx:=aT a;have hy:=aT b;have hva:=aB a;have hvb:=aB b;generalize ae a=xs at *;generalize ae b=ys at *;obtain ⟨HR1,HR2,HX,HY,HVA,HVB,HO0⟩:=dQ r1 r2 hx hy hva hvb (World.ownsRow_nil w w.heap.size 92 1);clear h1 h2 r1 r2 hx hy hva hvb;go_enter func127,ntmps127
 go_wp2;go_loopw [5,6,7,8] (fun v cc ii _ wr=>∃ (i k:Nat) (os:List Nat),i≤xs.length+ys.length+1∧ii=.int .i64 i∧cc=.int .u32 (k:Int)∧(k=0∨i≤xs.length∨i≤ys.length)∧os.length=i∧Hid (wr.ownsRow w.heap.size 92 1 v os.length (cls .u32 os))∧Hid (di xs ys os i k)∧Hid (Below w.heap.size w wr)) (fun _ _ ii _ _=>xs.length+ys.length+2-(intOf ii).toNat)
 case atStart=>exact⟨0,0,[],by omega,rfl,rfl,Or.inl rfl,rfl,HO0,di.start xs ys,Below.refl _ _⟩
 case round =>
  obtain⟨i,k,os,hiM,rfl,rfl,hki,hol,ho,hI,hn⟩:=hrel;have hk1:k≤1:=hI.o.2.2.1;have hst:=hI.o.step (iq HX.o i) (iq HY.o i);have i1:(i:Int)≤200001:=by omega
  have hol2:os.length≤200001:=by omega
  by_cases hxi:i<xs.length
  · by_cases hyi:i<ys.length
    · obtain⟨b1,o1,rfl,hb1,hc1⟩:=HR1.o i hxi
      have hcx:=(hn.o.cell (p:=⟨b1,o1+i,none⟩) hb1).trans hc1;have hxB:=iq HX.o i;have j1:(i:Int)<(xs.length:Int):=by omega
      have d1:decide ((i:Int)<(xs.length:Int))=true:=decide_eq_true j1;obtain⟨b2,o2,rfl,hb2,hc2⟩:=HR2.o i hyi;have hcy:=(hn.o.cell (p:=⟨b2,o2+i,none⟩) hb2).trans hc2;have hyB:=iq HY.o i;have j2:(i:Int)<(ys.length:Int):=by omega
      have d2:decide ((i:Int)<(ys.length:Int))=true:=decide_eq_true j2;have HST:=hid hst;clear hst hI hb1 hc1 hb2 hc2;generalize xs.getD i 0=x at *;rw[aH]at hxB;have hx9:(x:Int)≤999999999:=by omega
      generalize ys.getD i 0=y at *;rw[aH]at hyB;have hy9:(y:Int)≤999999999:=by omega
      obtain⟨lo,hlo⟩:∃ lo:Nat,lo=(x+y+k)%BB:=⟨_,rfl⟩;obtain⟨hc,hhc⟩:∃ hc:Nat,hc=(x+y+k) / BB:=⟨_,rfl⟩;have HST2:=hid (show di xs ys (os++[lo]) (i+1) hc by rw[hlo,hhc];exact HST.o);have hmod:((k:Int)+(x:Int)+(y:Int))%1000000000=(lo:Int):=by rw[hlo,aH];omega
      have hdiv:((k:Int)+(x:Int)+(y:Int)) / 1000000000=(hc:Int):=by rw[hhc,aH];omega
      have hk9:(k:Int)≤1:=by omega
      clear hlo hhc HST hxB hyB hk1;go_wp2_with (at_builtin;refine wpList_append_own _ rfl _ _ 46 rfl w.heap.size 92 i0 (.int .u32 0) 1 4 underlying46 hi hz0 hz1 hz2 rfl (by decide) _ _ _ rfl (ho.o.alloc _) ⟨wr.heap.size,0,none⟩ 1 1 [.int .u32 (lo:Int)] rfl rfl (cells_one _ _ _) (by intro u hu;simp at hu;subst hu;rfl) (by unfold maxLen;omega) (by omega) (by have:=hn.o.size;simp;omega) ?_)
      intro v' w1 hown' hgrow _;have HO:=hid hown';have HN:=hid ((hn.o.alloc hn.o.size _).grown hgrow (by have:=hn.o.size;simp;omega) (fun k hk=>(ho.o.lt k hk).1));clear hown' hgrow;go_wp2;go_roundw
      case rel=>exact⟨i+1,hc,os++[lo],by omega,by go_num,by first|rfl|exact cZ hdiv|simp,Or.inr (Or.inl (by omega)),by simp[hol],by have:=HO.o;rw[cB,List.length_append,hol];exact this,HST2,HN⟩
      case measure=>simp[intOf];omega
    · obtain⟨b1,o1,rfl,hb1,hc1⟩:=HR1.o i hxi
      have hcx:=(hn.o.cell (p:=⟨b1,o1+i,none⟩) hb1).trans hc1;have hxB:=iq HX.o i;have j1:(i:Int)<(xs.length:Int):=by omega
      have d1:decide ((i:Int)<(xs.length:Int))=true:=decide_eq_true j1;have d2:decide ((i:Int)<(ys.length:Int))=false:=decide_eq_false (by omega);rw[ky (xs:=ys) (by omega)]at hst;have HST:=hid hst;clear hst hI hb1 hc1;generalize xs.getD i 0=x at *;rw[aH]at hxB;have hx9:(x:Int)≤999999999:=by omega
      obtain⟨lo,hlo⟩:∃ lo:Nat,lo=(x+0+k)%BB:=⟨_,rfl⟩;obtain⟨hc,hhc⟩:∃ hc:Nat,hc=(x+0+k) / BB:=⟨_,rfl⟩;have HST2:=hid (show di xs ys (os++[lo]) (i+1) hc by rw[hlo,hhc];exact HST.o);have hmod:((k:Int)+(x:Int))%1000000000=(lo:Int):=by rw[hlo,aH];omega
      have hdiv:((k:Int)+(x:Int)) / 1000000000=(hc:Int):=by rw[hhc,aH];omega
      have hk9:(k:Int)≤1:=by omega
      clear hlo hhc HST hxB hk1;go_wp2_with (at_builtin;refine wpList_append_own _ rfl _ _ 46 rfl w.heap.size 92 i0 (.int .u32 0) 1 4 underlying46 hi hz0 hz1 hz2 rfl (by decide) _ _ _ rfl (ho.o.alloc _) ⟨wr.heap.size,0,none⟩ 1 1 [.int .u32 (lo:Int)] rfl rfl (cells_one _ _ _) (by intro u hu;simp at hu;subst hu;rfl) (by unfold maxLen;omega) (by omega) (by have:=hn.o.size;simp;omega) ?_)
      intro v' w1 hown' hgrow _;have HO:=hid hown';have HN:=hid ((hn.o.alloc hn.o.size _).grown hgrow (by have:=hn.o.size;simp;omega) (fun k hk=>(ho.o.lt k hk).1));clear hown' hgrow;go_wp2;go_roundw
      case rel=>exact⟨i+1,hc,os++[lo],by omega,by go_num,by first|rfl|exact cZ hdiv|simp,Or.inr (Or.inl (by omega)),by simp[hol],by have:=HO.o;rw[cB,List.length_append,hol];exact this,HST2,HN⟩
      case measure=>simp[intOf];omega
  · by_cases hyi:i<ys.length
    · have d1:decide ((i:Int)<(xs.length:Int))=false:=decide_eq_false (by omega)
      rw[ky (xs:=xs) (by omega)]at hst;obtain⟨b2,o2,rfl,hb2,hc2⟩:=HR2.o i hyi;have hcy:=(hn.o.cell (p:=⟨b2,o2+i,none⟩) hb2).trans hc2;have hyB:=iq HY.o i;have j2:(i:Int)<(ys.length:Int):=by omega
      have d2:decide ((i:Int)<(ys.length:Int))=true:=decide_eq_true j2;have HST:=hid hst;clear hst hI hb2 hc2;generalize ys.getD i 0=y at *;rw[aH]at hyB;have hy9:(y:Int)≤999999999:=by omega
      obtain⟨lo,hlo⟩:∃ lo:Nat,lo=(0+y+k)%BB:=⟨_,rfl⟩;obtain⟨hc,hhc⟩:∃ hc:Nat,hc=(0+y+k) / BB:=⟨_,rfl⟩;have HST2:=hid (show di xs ys (os++[lo]) (i+1) hc by rw[hlo,hhc];exact HST.o);have hmod:((k:Int)+(y:Int))%1000000000=(lo:Int):=by rw[hlo,aH];omega
      have hdiv:((k:Int)+(y:Int)) / 1000000000=(hc:Int):=by rw[hhc,aH];omega
      have hk9:(k:Int)≤1:=by omega
      clear hlo hhc HST hyB hk1;go_wp2_with (at_builtin;refine wpList_append_own _ rfl _ _ 46 rfl w.heap.size 92 i0 (.int .u32 0) 1 4 underlying46 hi hz0 hz1 hz2 rfl (by decide) _ _ _ rfl (ho.o.alloc _) ⟨wr.heap.size,0,none⟩ 1 1 [.int .u32 (lo:Int)] rfl rfl (cells_one _ _ _) (by intro u hu;simp at hu;subst hu;rfl) (by unfold maxLen;omega) (by omega) (by have:=hn.o.size;simp;omega) ?_)
      intro v' w1 hown' hgrow _;have HO:=hid hown';have HN:=hid ((hn.o.alloc hn.o.size _).grown hgrow (by have:=hn.o.size;simp;omega) (fun k hk=>(ho.o.lt k hk).1));clear hown' hgrow;go_wp2;go_roundw
      case rel=>exact⟨i+1,hc,os++[lo],by omega,by go_num,by first|rfl|exact cZ hdiv|simp,Or.inr (Or.inr (by omega)),by simp[hol],by have:=HO.o;rw[cB,List.length_append,hol];exact this,HST2,HN⟩
      case measure=>simp[intOf];omega
    · by_cases hk0:k=0
      · subst hk0
        have d1:decide ((i:Int)<(xs.length:Int))=false:=decide_eq_false (by omega);have d2:decide ((i:Int)<(ys.length:Int))=false:=decide_eq_false (by omega);obtain⟨hv,hB⟩:=hI.o.end0 (by omega) (by omega);have htr:=gQ 92 w.heap.size _ os hB wr ho.o;rw[hv,HVA.o,HVB.o]at htr;have HTR:=hid htr;clear hst hv hB htr hI;go_wp2_with fail
        refine HTR.o.mono ?_;rintro e w2 ⟨v',rfl,hown,rfl⟩;go_wp2;go_ret
        exact⟨v',rfl,hown,hn.o⟩
      · have d1:decide ((i:Int)<(xs.length:Int))=false:=decide_eq_false (by omega)
        rw[ky (xs:=xs) (by omega)]at hst;have d2:decide ((i:Int)<(ys.length:Int))=false:=decide_eq_false (by omega);rw[ky (xs:=ys) (by omega)]at hst;obtain rfl:k=1:=by omega
        have HST:=hid hst;clear hst hI;obtain⟨lo,hlo⟩:∃ lo:Nat,lo=(0+0+1)%BB:=⟨_,rfl⟩;obtain⟨hc,hhc⟩:∃ hc:Nat,hc=(0+0+1) / BB:=⟨_,rfl⟩;have HST2:=hid (show di xs ys (os++[lo]) (i+1) hc by rw[hlo,hhc];exact HST.o);have hlo1:lo=1:=by rw[hlo,aH]
        have hhc0:hc=0:=by rw[hhc,aH]
        subst hlo1 hhc0;clear hlo hhc HST;go_wp2_with (at_builtin;refine wpList_append_own _ rfl _ _ 46 rfl w.heap.size 92 i0 (.int .u32 0) 1 4 underlying46 hi hz0 hz1 hz2 rfl (by decide) _ _ _ rfl (ho.o.alloc _) ⟨wr.heap.size,0,none⟩ 1 1 [.int .u32 1] rfl rfl (cells_one _ _ _) (by intro u hu;simp at hu;subst hu;rfl) (by unfold maxLen;omega) (by omega) (by have:=hn.o.size;simp;omega) ?_)
        intro v' w1 hown' hgrow _;have HO:=hid hown';have HN:=hid ((hn.o.alloc hn.o.size _).grown hgrow (by have:=hn.o.size;simp;omega) (fun k hk=>(ho.o.lt k hk).1));clear hown' hgrow;go_wp2;go_roundw
        case rel=>exact⟨i+1,0,os++[1],by omega,by go_num,by first|rfl|exact cZ hdiv|simp,Or.inl rfl,by simp[hol],by have:=HO.o;rw[cB,List.length_append,hol];exact this,HST2,HN⟩
        case measure=>simp[intOf];omega
open Go.Lib (hid)
theorem z0d (v1 v2:Value)(a b:Nat)(hab:b≤a)(hla:(ae a).length≤100000)(w:World)(h1:Rd .u32 w v1 (ae a))(h2:Rd .u32 w v2 (ae b)) :
 Calls Tryz.prog 128 #[v1,v2] w fun e w'=>∃ v,e=.returned v∧Gb.Own .u32 92 w.heap.size w' v (ae (a-b))∧Below w.heap.size w w':=by
 obtain⟨i0,hi,hz0,hz1,hz2⟩:=info_parts Tryz.info92;have hlb:=aQ hab;obtain⟨p1,c1,rfl,r1⟩:=h1.gen;obtain⟨p2,c2,rfl,r2⟩:=h2.gen;have hx:=aT a;have hy:=aT b;have hva:=aB a;have hvb:=aB b;generalize ae a=xs at *;generalize ae b=ys at *;obtain ⟨HR1,HR2,HX,HY,HVA,HVB,HAB,HO0⟩:=jf r1 r2 hx hy hva hvb hab (World.ownsRow_nil w w.heap.size 92 1);clear h1 h2 r1 r2 hx hy hva hvb hab;go_enter func128,ntmps128
 go_wp2;go_loopw [5,6,7,8] (fun v cc ii _ wr=>∃ (i k:Nat) (os:List Nat),i≤xs.length∧ii=.int .i64 i∧cc=.int .i64 (k:Int)∧os.length=i∧Hid (wr.ownsRow w.heap.size 92 1 v os.length (cls .u32 os))∧Hid (eH xs ys os i k)∧Hid (Below w.heap.size w wr)) (fun _ _ ii _ _=>xs.length-(intOf ii).toNat)
 case atStart=>exact⟨0,0,[],by omega,rfl,rfl,rfl,HO0,eH.start xs ys,Below.refl _ _⟩
 case round =>
  obtain⟨i,k,os,hiM,rfl,rfl,hol,ho,hI,hn⟩:=hrel;have hk1:k≤1:=hI.o.2.2.1;have hk9:(k:Int)≤1:=by omega
  by_cases hxi:i<xs.length
  · obtain⟨b1,o1,rfl,hb1,hc1⟩:=HR1.o i hxi
    have hcx:=(hn.o.cell (p:=⟨b1,o1+i,none⟩) hb1).trans hc1;have hxB:=iq HX.o i;have hyB:=iq HY.o i;have j1:(i:Int)<(xs.length:Int):=by omega
    have d1:decide ((i:Int)<(xs.length:Int))=true:=decide_eq_true j1;have hsm:=hI.o.small hxB;have hbg:=hI.o.big hyB;have hol2:os.length≤100000:=by omega
    have i1:(i:Int)≤100000:=by omega
    clear hb1 hc1 hI;by_cases hyi:i<ys.length
    · obtain⟨b2,o2,rfl,hb2,hc2⟩:=HR2.o i hyi
      have hcy:=(hn.o.cell (p:=⟨b2,o2+i,none⟩) hb2).trans hc2;have j2:(i:Int)<(ys.length:Int):=by omega
      have d2:decide ((i:Int)<(ys.length:Int))=true:=decide_eq_true j2;clear hb2 hc2;generalize xs.getD i 0=x at *;generalize ys.getD i 0=y at *;rw[aH]at hxB hyB;have hx9:(x:Int)≤999999999:=by omega
      have hy9:(y:Int)≤999999999:=by omega
      clear hxB hyB;by_cases hng:x<y+k
      · obtain⟨lo,hlo⟩:∃ lo:Nat,lo=x+BB-(y+k):=⟨_,rfl⟩
        have HST:=hid (show eH xs ys (os++[lo]) (i+1) 1 by rw[hlo];exact hbg (by omega));have hval:(x:Int)-(k:Int)-(y:Int)+1000000000=(lo:Int):=by rw[hlo,aH];omega
        have hneg:(x:Int)-(k:Int)-(y:Int)<0:=by omega
        have hlo9:(lo:Int)≤999999999:=by rw[aH]at hlo;omega
        clear hlo hsm hbg hng;go_wp2_with (at_builtin;refine wpList_append_own _ rfl _ _ 46 rfl w.heap.size 92 i0 (.int .u32 0) 1 4 underlying46 hi hz0 hz1 hz2 rfl (by decide) _ _ _ rfl (ho.o.alloc _) ⟨wr.heap.size,0,none⟩ 1 1 [.int .u32 (lo:Int)] rfl rfl (cells_one _ _ _) (by intro u hu;simp at hu;subst hu;rfl) (by unfold maxLen;omega) (by omega) (by have:=hn.o.size;simp;omega) ?_)
        intro v' w1 hown' hgrow _;have HO:=hid hown';have HN:=hid ((hn.o.alloc hn.o.size _).grown hgrow (by have:=hn.o.size;simp;omega) (fun k hk=>(ho.o.lt k hk).1));clear hown' hgrow;go_wp2;go_roundw
        case rel=>exact⟨i+1,1,os++[lo],by omega,by go_num,rfl,by simp[hol],by have:=HO.o;rw[cB,List.length_append,hol];exact this,HST,HN⟩
        case measure=>simp[intOf];omega
      · obtain⟨lo,hlo⟩:∃ lo:Nat,lo=x-(y+k):=⟨_,rfl⟩
        have HST:=hid (show eH xs ys (os++[lo]) (i+1) 0 by rw[hlo];exact hsm (by omega));have hval:(x:Int)-(k:Int)-(y:Int)=(lo:Int):=by rw[hlo];omega
        have hneg:decide ((lo:Int)<0)=false:=decide_eq_false (by omega);have hlo9:(lo:Int)≤999999999:=by omega
        clear hlo hsm hbg hng;go_wp2_with (at_builtin;refine wpList_append_own _ rfl _ _ 46 rfl w.heap.size 92 i0 (.int .u32 0) 1 4 underlying46 hi hz0 hz1 hz2 rfl (by decide) _ _ _ rfl (ho.o.alloc _) ⟨wr.heap.size,0,none⟩ 1 1 [.int .u32 (lo:Int)] rfl rfl (cells_one _ _ _) (by intro u hu;simp at hu;subst hu;rfl) (by unfold maxLen;omega) (by omega) (by have:=hn.o.size;simp;omega) ?_)
        intro v' w1 hown' hgrow _;have HO:=hid hown';have HN:=hid ((hn.o.alloc hn.o.size _).grown hgrow (by have:=hn.o.size;simp;omega) (fun k hk=>(ho.o.lt k hk).1));clear hown' hgrow;go_wp2;go_roundw
        case rel=>exact⟨i+1,0,os++[lo],by omega,by go_num,rfl,by simp[hol],by have:=HO.o;rw[cB,List.length_append,hol];exact this,HST,HN⟩
        case measure=>simp[intOf];omega
    · have d2:decide ((i:Int)<(ys.length:Int))=false:=decide_eq_false (by omega)
      rw[ky (xs:=ys) (by omega)]at hsm hbg;clear hyB;generalize xs.getD i 0=x at *;rw[aH]at hxB;have hx9:(x:Int)≤999999999:=by omega
      clear hxB;by_cases hng:x<0+k
      · obtain⟨lo,hlo⟩:∃ lo:Nat,lo=x+BB-(0+k):=⟨_,rfl⟩
        have HST:=hid (show eH xs ys (os++[lo]) (i+1) 1 by rw[hlo];exact hbg (by omega));have hval:(x:Int)-(k:Int)+1000000000=(lo:Int):=by rw[hlo,aH];omega
        have hneg:(x:Int)-(k:Int)<0:=by omega
        have hlo9:(lo:Int)≤999999999:=by rw[aH]at hlo;omega
        clear hlo hsm hbg hng;go_wp2_with (at_builtin;refine wpList_append_own _ rfl _ _ 46 rfl w.heap.size 92 i0 (.int .u32 0) 1 4 underlying46 hi hz0 hz1 hz2 rfl (by decide) _ _ _ rfl (ho.o.alloc _) ⟨wr.heap.size,0,none⟩ 1 1 [.int .u32 (lo:Int)] rfl rfl (cells_one _ _ _) (by intro u hu;simp at hu;subst hu;rfl) (by unfold maxLen;omega) (by omega) (by have:=hn.o.size;simp;omega) ?_)
        intro v' w1 hown' hgrow _;have HO:=hid hown';have HN:=hid ((hn.o.alloc hn.o.size _).grown hgrow (by have:=hn.o.size;simp;omega) (fun k hk=>(ho.o.lt k hk).1));clear hown' hgrow;go_wp2;go_roundw
        case rel=>exact⟨i+1,1,os++[lo],by omega,by go_num,rfl,by simp[hol],by have:=HO.o;rw[cB,List.length_append,hol];exact this,HST,HN⟩
        case measure=>simp[intOf];omega
      · obtain⟨lo,hlo⟩:∃ lo:Nat,lo=x-(0+k):=⟨_,rfl⟩
        have HST:=hid (show eH xs ys (os++[lo]) (i+1) 0 by rw[hlo];exact hsm (by omega));have hval:(x:Int)-(k:Int)=(lo:Int):=by rw[hlo];omega
        have hneg:decide ((lo:Int)<0)=false:=decide_eq_false (by omega);have hlo9:(lo:Int)≤999999999:=by omega
        clear hlo hsm hbg hng;go_wp2_with (at_builtin;refine wpList_append_own _ rfl _ _ 46 rfl w.heap.size 92 i0 (.int .u32 0) 1 4 underlying46 hi hz0 hz1 hz2 rfl (by decide) _ _ _ rfl (ho.o.alloc _) ⟨wr.heap.size,0,none⟩ 1 1 [.int .u32 (lo:Int)] rfl rfl (cells_one _ _ _) (by intro u hu;simp at hu;subst hu;rfl) (by unfold maxLen;omega) (by omega) (by have:=hn.o.size;simp;omega) ?_)
        intro v' w1 hown' hgrow _;have HO:=hid hown';have HN:=hid ((hn.o.alloc hn.o.size _).grown hgrow (by have:=hn.o.size;simp;omega) (fun k hk=>(ho.o.lt k hk).1));clear hown' hgrow;go_wp2;go_roundw
        case rel=>exact⟨i+1,0,os++[lo],by omega,by go_num,rfl,by simp[hol],by have:=HO.o;rw[cB,List.length_append,hol];exact this,HST,HN⟩
        case measure=>simp[intOf];omega
  · have d1:decide ((i:Int)<(xs.length:Int))=false:=decide_eq_false (by omega)
    obtain rfl:i=xs.length:=by omega
    obtain⟨hv,hB⟩:=hI.o.done hlb (by rw[HVA.o,HVB.o];exact HAB.o);have htr:=gQ 92 w.heap.size _ os hB wr ho.o;rw[hv,HVA.o,HVB.o]at htr;have HTR:=hid htr;clear hv hB htr hI;go_wp2_with fail
    refine HTR.o.mono ?_;rintro e w2 ⟨v',rfl,hown,rfl⟩;go_wp2;go_ret
    exact⟨v',rfl,hown,hn.o⟩
