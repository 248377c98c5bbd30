/- texts -/
import Derived.Test.YtkiklcbhglpooaaGreatDoorMz10q
open Go.Proofs.Tryz
set_option maxRecDepth 100000
set_option maxHeartbeats 20000000
open Go.Lib (hid)
namespace Go.Proofs.YtkiklcbhglpooaaGreatDoor
open Go.RowKit Go.Gb
theorem xL {B:Nat}{w:World}{a:Option Addr}{n c:Nat}{xs:List Nat}(h:Own .u64 133 B w (.slice a n c) xs)(hp:0<n):∃ g,a=some ⟨g,0,none⟩∧n=xs.length∧B≤g∧g<w.heap.size:=by
 obtain⟨h1,h2⟩:=h;rcases h2 with⟨h2,_⟩|⟨g,cap,cur,hv,hg,hh,_⟩
 · injection h2 with e1 e2 e3;omega
 · injection hv with e1 e2 e3
   exact⟨g,e1,e2,hg,(Array.getElem?_eq_some_iff.1 hh).1⟩
theorem xM {B:Nat}{w:World}{g n c:Nat}{xs:List Nat}(h:Own .u64 133 B w (.slice (some ⟨g,0,none⟩) n c) xs)(hn:n=xs.length){i:Nat}(hi:i<n):w.cell? ⟨g,i,none⟩=some (.int .u64 ((xs.getD i 0:Nat):Int)):=by
 subst hn;have:=World.ownsRow.cellAt (w:=w) (size:=1) h i (by omega);rw[this];exact jJ hi
theorem xK {B:Nat}{w:World}{g n c:Nat}{xs:List Nat}(h:Own .u64 133 B w (.slice (some ⟨g,0,none⟩) n c) xs)(hn:n=xs.length)(i:Nat):w.frozen? ⟨g,i,none⟩=false:=by
 subst hn;exact World.ownsRow.frozenAt (w:=w) (size:=1) h i
theorem tX {B:Nat}{w:World}{g n c:Nat}{xs:List Nat}(h:Own .u64 133 B w (.slice (some ⟨g,0,none⟩) n c) xs)(hn:n=xs.length)(i r:Nat):Own .u64 133 B (w.setCell ⟨g,i,none⟩ (.int .u64 (r:Int))) (.slice (some ⟨g,0,none⟩) n c) (xs.set i r):=by
 subst hn;have:=(World.ownsRow.stored (w:=w) (size:=1) h i (.int .u64 (r:Int))).1;unfold Own
 rw[sF,List.length_set];exact this
theorem tY {B:Nat}{w:World}{v:Value}{xs:List Nat}(h:Own .u64 133 B w v xs){g:Nat}(hg:¬ At v g)(i:Nat)(u:Value):Own .u64 133 B (w.setCell ⟨g,i,none⟩ u) v xs :=
 h.kp (S:=fun k=>k=g) ((Kp.refl (fun k=>k=g) w).set (p:=⟨g,i,none⟩) (fun _=>rfl) u) (fun _ hk e=>hg (e▸hk))
theorem tC (w:World)(p:Addr)(u:Value):(w.setCell p u).heap.size=w.heap.size:=by simp[World.setCell]
theorem z0j (ys r:List Nat)(x:Nat):(ys++(x :: r)).getD ys.length 0=x:=by simp[List.getD]
theorem z0i (ys r:List Nat)(x v:Nat):(ys++(x :: r)).set ys.length v=(ys++[v])++r:=by simp
theorem yf {p q:Int}{X Y os:List Nat}{i:Nat}{k:Int}(h:mE p q X Y os i k)(hx:X.getD i 0<BB)(hy:Y.getD i 0<BB)(hp1 : -1000000000≤p)(hp2:p≤1000000000)(hq1 : -1000000000≤q)(hq2:q≤1000000000) :
 ∃ (r:Nat) (j:Int),mE p q X Y (os++[r]) (i+1) j∧r<1000000000 ∧ -3000000000≤j∧j≤3000000000 ∧
   ∀ W,Calls Tryz.prog 303 #[.int .i64 (p*(X.getD i 0:Int)+q*(Y.getD i 0:Int)+k)] W fun e w'=>e=.returned (.tuple #[.int .u64 (r:Int),.int .i64 j])∧W=w':=by
 obtain⟨b0,b1,hb⟩:=h.step hx hy hp1 hp2 hq1 hq2;refine⟨_,_,hb,by omega,hb.2.2.1,hb.2.2.2.1,fun W=>?_⟩;have hs:=z02 _ b0 b1 W;rw[Int.toNat_of_nonneg (Int.emod_nonneg _ (by decide))];exact hs
theorem jK (B:Nat)(v1 v2:Value)(xs ys:List Nat)(a b c d:Int)(z1 z2:Nat)(w:World)
 (ha1 : -1000000000≤a) (ha2:a≤1000000000) (hb1 : -1000000000≤b) (hb2:b≤1000000000) (hc1 : -1000000000≤c) (hc2:c≤1000000000) (hd1 : -1000000000≤d) (hd2:d≤1000000000)
 (hx:∀ x∈xs,x<BB) (hy:∀ y∈ys,y<BB) (hlx:xs.length≤90000) (hly:ys.length≤90000)
 (e1:a*(aj xs:Int)+b*(aj ys:Int)=(z1:Int)) (e2:c*(aj xs:Int)+d*(aj ys:Int)=(z2:Int))
 (h1:Own .u64 133 B w v1 xs) (h2:Own .u64 133 B w v2 ys) (hs:Apt v1 v2) (hB:B≤w.heap.size) :
 Calls Tryz.prog 290 #[v1,v2,.int .i64 a,.int .i64 b,.int .i64 c,.int .i64 d] w fun e w'=>∃ u1 u2,e=.returned (.tuple #[u1,u2])∧Own .u64 133 B w' u1 (ag z1)∧Own .u64 133 B w' u2 (ag z2) ∧
  Apt u1 u2∧gG w v1 u1∧gG w v2 u2∧Kp (fun g=>At v1 g∨At v2 g) w w':=by
 obtain⟨n,hn⟩:∃ n,n=max xs.length ys.length:=⟨_,rfl⟩;have hmx:max (xs.length:Int) (ys.length:Int)=(n:Int):=by omega
 obtain⟨X,hX⟩:∃ X,X=xs++List.replicate (n-xs.length) 0:=⟨_,rfl⟩;obtain⟨Y,hY⟩:∃ Y,Y=ys++List.replicate (n-ys.length) 0:=⟨_,rfl⟩;have hXl:X.length=n:=by rw[hX,List.length_append,List.length_replicate];omega
 have hYl:Y.length=n:=by rw[hY,List.length_append,List.length_replicate];omega
 have hXB:∀ x∈X,x<BB:=by
  intro x hx';rw[hX]at hx';rcases List.mem_append.1 hx' with h|h
  · exact hx x h
  · rw[(List.mem_replicate.1 h).2];exact bE
 have hYB:∀ y∈Y,y<BB:=by
  intro y hy';rw[hY]at hy';rcases List.mem_append.1 hy' with h|h
  · exact hy y h
  · rw[(List.mem_replicate.1 h).2];exact bE
 have hXv:aj X=aj xs:=by rw[hX];exact fe xs _
 have hYv:aj Y=aj ys:=by rw[hY];exact fe ys _
 rw[← hXv,← hYv]at e1 e2
 have HP1:=hid (show ∀ W,Own .u64 133 B W v1 xs→B≤W.heap.size→Calls Tryz.prog 302 #[v1,.int .i64 (n:Int)] W fun e w'=>∃ u,e=.returned u∧Own .u64 133 B w' u X∧gG W v1 u∧Kp (At v1) W w' from
  fun W h hBW=>by rw[hX];exact z0x B v1 xs n (by omega) (by omega) W h hBW)
 have HP2:=hid (show ∀ W,Own .u64 133 B W v2 ys→B≤W.heap.size→Calls Tryz.prog 302 #[v2,.int .i64 (n:Int)] W fun e w'=>∃ u,e=.returned u∧Own .u64 133 B w' u Y∧gG W v2 u∧Kp (At v2) W w' from
  fun W h hBW=>by rw[hY];exact z0x B v2 ys n (by omega) (by omega) W h hBW)
 have hn9:n≤90000:=by omega
 obtain⟨a1,c1,rfl⟩:=aT h1.rd;obtain⟨a2,c2,rfl⟩:=aT h2.rd;obtain ⟨HXB,HYB,HXL,HYL,HE1,HE2,H1,H2,HS⟩:=bW hXB hYB hXl hYl e1 e2 h1 h2 hs;have HB:=hid hB;clear hn hX hY hXl hYl hXB hYB hXv hYv e1 e2 h1 h2 hs hB hx hy;go_enter func290,ntmps290
 go_wp2_with fail
 refine(HP1.o _ H1.o HB.o).mono ?_;rintro e w1 ⟨u1,rfl,ho1,hno1,hk1⟩;have ho2:=H2.o.kp hk1 (fun g h h'=>HS.o g h' h);have hs1:Apt u1 (.slice a2 ys.length c2):=HS.o.newOr hno1 (fun g hg=>(H2.o.at hg).2);obtain ⟨HO1,HO2,HN1,HK1,HS1⟩:=cB ho1 ho2 hno1 hk1 hs1;clear ho1 ho2 hno1 hk1 hs1;go_wp2_with fail
 refine(HP2.o _ HO2.o (Nat.le_trans HB.o HK1.o.size)).mono ?_;rintro e w2 ⟨u2,rfl,ho2,hno2,hk2⟩;have ho1:=HO1.o.kp hk2 (fun g h h'=>HS1.o g h h');have hs2:Apt u1 u2:=(HS1.o.symm.newOr hno2 (fun g hg=>(HO1.o.at hg).2)).symm;have HN2:=hid (show gG w (.slice a2 ys.length c2) u2 from(gG.refl w _).trans hno2 HK1.o.size);have HK2:=hid (show Kp (fun g=>At (.slice a1 xs.length c1) g∨At (.slice a2 ys.length c2) g) w w2 from(HK1.o.mono (fun _ h=>Or.inl h)).trans hk2 (fun _ _ h=>Or.inr h));obtain⟨b1,k1,rfl⟩:=aT ho1.rd;obtain⟨b2,k2,rfl⟩:=aT ho2.rd;rw[HXL.o]at ho1 hs2 HN1;rw[HYL.o]at ho2 hs2 HN2;rw[HXL.o,HYL.o];obtain ⟨HO1,HO2,HS2⟩:=av ho1 ho2 hs2;clear ho1 ho2 hno2 hk2 hs2 HP1 HP2 HS1 HK1;go_wp2
 go_loopw [15,16,17,18,19,20,34] (fun f1 f2 _ _ _ _ ii wr=>∃ (i:Nat) (j1 j2:Int) (o1 o2:List Nat),i≤n∧ii=.int .i64 (i:Int)∧f1=.int .i64 j1∧f2=.int .i64 j2∧Hid (mE a b X Y o1 i j1)∧Hid (mE c d X Y o2 i j2) ∧
  Hid (Own .u64 133 B wr (.slice b1 n k1) (o1++X.drop i))∧Hid (Own .u64 133 B wr (.slice b2 n k2) (o2++Y.drop i))∧Hid (Kp (fun g=>At (.slice a1 xs.length c1) g∨At (.slice a2 ys.length c2) g) w wr)∧Hid (w2.heap.size=wr.heap.size)) (fun _ _ _ _ _ _ ii _=>n-(intOf ii).toNat)
 case atStart=>exact⟨0,0,0,[],[],Nat.zero_le _,rfl,rfl,rfl,mE.start _ _ _ _,mE.start _ _ _ _,by rw[List.drop_zero];exact HO1.o,by rw[List.drop_zero];exact HO2.o,HK2.o,rfl⟩
 case round =>
  obtain⟨i,j1,j2,o1,o2,hi,rfl,rfl,rfl,hi1,hi2,hO1,hO2,hK,hZ⟩:=hrel;clear HO1 HO2 HK2;by_cases hlt:i<n
  · obtain⟨g1,rfl,hl1,hg1B,hg1⟩:=xL hO1.o (by omega)
    obtain⟨g2,rfl,hl2,hg2B,hg2⟩:=xL hO2.o (by omega);have hne:g1≠g2:=fun e=>HS2.o g1 (fV.2 rfl) (fV.2 e.symm);have hne':¬ g2=g1:=fun e=>hne e.symm;have ol1:=hi1.o.1;have ol2:=hi2.o.1;have x9:=getD_lt HXB.o i;have y9:=getD_lt HYB.o i;obtain⟨r1,m1,hn1,hr1,ml1,mu1,hs1⟩:=yf hi1.o x9 y9 ha1 ha2 hb1 hb2;obtain⟨r2,m2,hn2,hr2,ml2,mu2,hs2⟩:=yf hi2.o x9 y9 hc1 hc2 hd1 hd2;have q1:=Go.Gb.prod_bound ha1 ha2 x9;have q2:=Go.Gb.prod_bound hb1 hb2 y9;have q3:=Go.Gb.prod_bound hc1 hc2 x9;have q4:=Go.Gb.prod_bound hd1 hd2 y9;have jl1:=hi1.o.2.2.1;have ju1:=hi1.o.2.2.2.1;have jl2:=hi2.o.2.2.1;have ju2:=hi2.o.2.2.2.1;have dx:X.drop i=X.getD i 0 :: X.drop (i+1):=fw (by rw[HXL.o];exact hlt);have dy:Y.drop i=Y.getD i 0 :: Y.drop (i+1):=fw (by rw[HYL.o];exact hlt);have P1:=hO1.o;have P2:=hO2.o;rw[dx]at P1 hl1;rw[dy]at P2 hl2;have cx:=xM P1 hl1 (i:=i) hlt;have cy:=xM P2 hl2 (i:=i) hlt;have fx:=xK P1 hl1 i;have fy:=xK P2 hl2 i;have gx:=z0j o1 (X.drop (i+1)) (X.getD i 0);have gy:=z0j o2 (Y.drop (i+1)) (Y.getD i 0);rw[ol1]at gx;rw[ol2]at gy;rw[gx]at cx;rw[gy]at cy;have w1':=tX P1 hl1 i r1;have sx:=z0i o1 (X.drop (i+1)) (X.getD i 0) r1;have sy:=z0i o2 (Y.drop (i+1)) (Y.getD i 0) r2;rw[ol1]at sx;rw[ol2]at sy;rw[sx]at w1';have nA2:¬ At (.slice (some ⟨g2,0,none⟩) n k2) g1:=fun h=>hne' (fV.1 h);have nA1:¬ At (.slice (some ⟨g1,0,none⟩) n k1) g2:=fun h=>hne (fV.1 h);have w2':=tX (tY P2 nA2 i (.int .u64 (r1:Int))) hl2 i r2;rw[sy]at w2';obtain ⟨HW1,HW2⟩:=aC (tY w1' nA1 i (.int .u64 (r2:Int))) w2'
    have kk:Kp (fun g=>At (.slice a1 xs.length c1) g∨At (.slice a2 ys.length c2) g) w ((wr.setCell ⟨g1,i,none⟩ (.int .u64 (r1:Int))).setCell ⟨g2,i,none⟩ (.int .u64 (r2:Int))):=by
        refine(hK.o.set (p:=⟨g1,i,none⟩) (fun hlt=>?_) _).set (p:=⟨g2,i,none⟩) (fun hlt=>?_) _
        · rcases HN1.o g1 (fV.2 rfl) with h|h
          · exact Or.inl h
          · exact absurd hlt (by show ¬ g1<_;omega)
        · rcases HN2.o g2 (fV.2 rfl) with h|h
          · exact Or.inr h
          · exact absurd hlt (by show ¬ g2<_;omega)
    obtain ⟨HKK,HN1',HN2',HS1,HSS2⟩:=cB kk hn1 hn2 hs1 hs2;clear P1 P2 w1' w2' sx sy gx gy dx dy kk hn1 hn2 hs1 hs2 ol1 ol2 hl1 hl2 hO1 hO2 hi1 hi2 hK nA1 nA2;rw[aD]at x9 y9;generalize X.getD i 0=x at *;generalize Y.getD i 0=y at *;obtain⟨pa,hpa⟩:∃ t,t=a*(x:Int):=⟨_,rfl⟩;obtain⟨pb,hpb⟩:∃ t,t=b*(y:Int):=⟨_,rfl⟩;obtain⟨pc,hpc⟩:∃ t,t=c*(x:Int):=⟨_,rfl⟩;obtain⟨pd,hpd⟩:∃ t,t=d*(y:Int):=⟨_,rfl⟩;rw[← hpa,← hpb]at HS1;rw[← hpc,← hpd]at HSS2;rw[← hpa]at q1;rw[← hpb]at q2;rw[← hpc]at q3;rw[← hpd]at q4;have ea:=hpa.symm;have eb:=hpb.symm;have ec:=hpc.symm;have ed:=hpd.symm;obtain⟨q1l,q1u⟩:=q1;obtain⟨q2l,q2u⟩:=q2;obtain⟨q3l,q3u⟩:=q3;obtain⟨q4l,q4u⟩:=q4;have v1:IntKind.i64.wrap pa=pa:=IntWalk.i64_in _ (by omega);have v2:IntKind.i64.wrap pb=pb:=IntWalk.i64_in _ (by omega);have v3:IntKind.i64.wrap pc=pc:=IntWalk.i64_in _ (by omega);have v4:IntKind.i64.wrap pd=pd:=IntWalk.i64_in _ (by omega);have v5:IntKind.i64.wrap (pa+pb)=pa+pb:=IntWalk.i64_in _ (by omega);have v6:IntKind.i64.wrap (pa+pb+j1)=pa+pb+j1:=IntWalk.i64_in _ (by omega);have v7:IntKind.i64.wrap (pc+pd)=pc+pd:=IntWalk.i64_in _ (by omega);have v8:IntKind.i64.wrap (pc+pd+j2)=pc+pd+j2:=IntWalk.i64_in _ (by omega);clear hpa hpb hpc hpd;go_wp2_with fail
    refine(HS1.o _).mono ?_;rintro e w' ⟨rfl,rfl⟩;go_wp2_with fail
    refine(HSS2.o _).mono ?_;rintro e w' ⟨rfl,rfl⟩;clear v1 v2 v3 v4 v5 v6 v7 v8 ea eb ec ed;go_wp2;go_roundw
    case rel=>exact⟨i+1,m1,m2,o1++[r1],o2++[r2],by omega,by go_num,rfl,rfl,HN1',HN2',HW1,HW2,HKK,by show w2.heap.size=_;rw[tC,tC];exact hZ.o⟩
    case measure=>simp[intOf];omega
  · obtain rfl:i=n:=by omega
    obtain⟨z1n,hw1,hlt1⟩:=hi1.o.done (by rw[HXL.o];exact Nat.le_refl _) (by rw[HYL.o];exact Nat.le_refl _) HE1.o;obtain⟨z2n,hw2,hlt2⟩:=hi2.o.done (by rw[HXL.o];exact Nat.le_refl _) (by rw[HYL.o];exact Nat.le_refl _) HE2.o;have ju1:=hi1.o.2.2.2.1;have ju2:=hi2.o.2.2.2.1;have ol1:=hi1.o.1;have ol2:=hi2.o.1;obtain⟨m1,rfl⟩:=Int.eq_ofNat_of_zero_le z1n;obtain⟨m2,rfl⟩:=Int.eq_ofNat_of_zero_le z2n;rw[Int.toNat_natCast]at hw1 hlt1 hw2 hlt2;have P1:=hO1.o;have P2:=hO2.o;rw[List.drop_of_length_le (by rw[HXL.o];exact Nat.le_refl _),List.append_nil]at P1;rw[List.drop_of_length_le (by rw[HYL.o];exact Nat.le_refl _),List.append_nil]at P2;have hBw:B≤wr.heap.size:=Nat.le_trans HB.o hK.o.size;have A1:=hid (jL B _ o1 m1 (by omega) (by omega) wr P1 hBw);obtain ⟨HP2,HP1,L1,L2,W1,W2⟩:=dw P2 P1 hlt1 hlt2 hw1 hw2;have hm2:m2≤3000000000:=by omega
    have ho2l:o2.length≤100000:=by omega
    have u6:=hid hBw;clear P1 P2 hlt1 hlt2 hw1 hw2 z1n z2n ju1 ju2 ol1 ol2 hBw hO1 hO2 hi1 hi2;go_wp2_with fail
    refine A1.o.mono ?_;rintro e w3 ⟨u3,rfl,ho3,hno3,hk3⟩;have T1:=hid (z1D B u3 _ L1.o w3 ho3);rw[W1.o]at T1;have P2':=HP2.o.kp hk3 (fun g h h'=>HS2.o g h' h);have hs3:Apt u3 (.slice b2 i k2):=HS2.o.newOr hno3 (fun g hg=>(HP2.o.at hg).2);have A2:=hid (jL B _ o2 m2 hm2 ho2l w3 P2' (Nat.le_trans u6.o hk3.size));obtain ⟨HNO3,HK3,HS3,HO3,HPP2⟩:=cB hno3 hk3 hs3 ho3 P2';clear ho3 hno3 hk3 hs3 P2';go_wp2_with fail
    refine T1.o.mono ?_;rintro e w' ⟨t1,rfl,hot1,hat1,rfl⟩;obtain ⟨HT1,HA1⟩:=aC hot1 hat1;clear hot1 hat1;go_wp2_with fail
    refine A2.o.mono ?_;rintro e w4 ⟨u4,rfl,ho4,hno4,hk4⟩;have T2:=hid (z1D B u4 _ L2.o w4 ho4);rw[W2.o]at T2;obtain ⟨HNO4,HK4⟩:=aC hno4 hk4;clear ho4 hno4 hk4;go_wp2_with fail
    refine T2.o.mono ?_;rintro e w' ⟨t2,rfl,hot2,hat2,rfl⟩;obtain ⟨HT2,HA2⟩:=aC hot2 hat2;clear hot2 hat2;go_wp2;go_ret2
    have zz:=hZ.o;have z3:=HK3.o.size;have zw:=hK.o.size;have zz2:w.heap.size≤w2.heap.size:=by omega
    refine⟨t1,t2,rfl,HT1.o.kp HK4.o (fun g h h'=>HS3.o g (HA1.o g h) h'),HT2.o,?_,?_,?_,?_⟩
    · intro g h h'
      exact(HS3.o.symm.newOr HNO4.o (fun g hg=>(HO3.o.at hg).2)) g (HA2.o g h') (HA1.o g h)
    · intro g h
      rcases HNO3.o g (HA1.o g h) with h'|h'
      · exact HN1.o g h'
      · right;omega
    · intro g h
      rcases HNO4.o g (HA2.o g h) with h'|h'
      · exact HN2.o g h'
      · right;omega
    · refine(hK.o.trans (HK3.o) (fun g hg h=>?_)).trans HK4.o (fun g hg h=>?_)
      · rcases HN1.o g h with h'|h'
        · exact Or.inl h'
        · omega
      · rcases HN2.o g h with h'|h'
        · exact Or.inr h'
        · omega
open Go.Lib (hid)
theorem Tryz.info92:(Tryz.prog.info? 92).map (fun i=>(i.zero,i.size,i.bytes))=some (some (.int .u32 0),1,4):=by kernel_rfl
theorem lS (b o c:Nat)(xs:List Nat)(hB:∀ x∈xs,x<BB)(hxc:xs.length≤c)(hcm:c≤maxLen)(w:World)
 (hc:∀ i,i<xs.length→w.cell? ⟨b,o+i,none⟩=some (.int .u32 ((xs.getD i 0:Nat):Int))) :
 Calls Tryz.prog 123 #[.slice (some ⟨b,o,none⟩) xs.length c] w fun e w'=>e=.returned (.slice (some ⟨b,o,none⟩) (ag (aj xs)).length c)∧w=w':=by
 unfold maxLen at hcm
 have HC:=hid hc;have HB:=hid hB;clear hc hB;go_enter func123,ntmps123
 go_wp2;go_loop [0] (fun x=>∃ n:Nat,n≤c∧x=.slice (some ⟨b,o,none⟩) n c∧Zs xs n) (fun x=>match x with | .slice _ n _=>n|_=>0)
 case atStart=>exact⟨xs.length,hxc,rfl,Zs.start xs⟩
 case round =>
  obtain⟨n,hn,rfl,hz⟩:=hrel;by_cases h0:n=0
  · have HF:=hid (hz.fin HB.o (Or.inl h0))
    subst h0;go_wp2;go_ret
    exact⟨kW HF.o,rfl⟩
  · have hp:0<n:=by omega
    have hcell:=HC.o (n-1) (by have:=hz.1;omega);by_cases hd:xs.getD (n-1) 0=0
    · rw[hd]at hcell
      have hz':=hz.step hd;clear hd;go_wp2;go_round
      case rel=>exact⟨n-1,by omega,rfl,hz'⟩
      case measure=>simp;omega
    · have HF:=hid (hz.fin HB.o (Or.inr hd))
      obtain⟨d,hdd⟩:∃ d,d=xs.getD (n-1) 0:=⟨_,rfl⟩;rw[← hdd]at hcell hd;have hb:((d:Int)==0)=false:=by simpa using hd
      have hd':0<d:=by omega
      clear hd hdd;go_wp2;go_ret
      exact⟨kW HF.o,rfl⟩
theorem ic (k:TypeId)(B:Nat)(v:Value)(xs:List Nat)(hB:∀ x∈xs,x<BB)(w:World)(h:Own .u32 k B w v xs) :
 Calls Tryz.prog 123 #[v] w fun e w'=>∃ v',e=.returned v'∧Own .u32 k B w v' (ag (aj xs))∧w=w':=by
 have hd:xs.take (ag (aj xs)).length=ag (aj xs)∧(ag (aj xs)).length≤xs.length:=by
  have hlen:(ag (aj xs)).length≤xs.length:=bH (dW xs hB);refine⟨?_,hlen⟩;generalize hm:(ag (aj xs)).length=m at hlen
  have key:∀ (n:Nat),Zs xs n→ag (aj xs)=xs.take (ag (aj xs)).length:=by
   intro n
   induction n with
   | zero=>intro hz;have e:=iw hz.1 hB hz.2 (Or.inl rfl);have:=hz.fin hB (Or.inl rfl);rw[← this];exact e
   | succ n ih =>
     intro hz;by_cases h0:xs.getD n 0=0
     · exact ih (by have:=hz.step (by simpa using h0);simpa using this)
     · have e:=iw hz.1 hB hz.2 (Or.inr (by simpa using h0))
       have:=hz.fin hB (Or.inr (by simpa using h0));rw[← this];exact e
  rw[← hm];exact(key _ (Zs.start xs)).symm
 have h0:=h;obtain⟨h1,h2⟩:=h;rcases h2 with⟨rfl,h3⟩|⟨g,cap,cur,rfl,hg,hh,hn,hc,hs,ht⟩
 · obtain rfl:xs=[]:=List.length_eq_zero_iff.1 h3
   have hz:ag (aj [])=[]:=by unfold aj;exact aN
   rw[hz];clear hd hB h0 hz;go_enter func123,ntmps123
   go_wp2;refine wp_loop_rounds 1 ?_;rw[rounds_succ];go_wp2;go_ret
   exact⟨_,rfl,Own.nil _ _ _ _,rfl⟩
 · have hrd:∀ i,i<xs.length→w.cell? ⟨g,0+i,none⟩=some (.int .u32 ((xs.getD i 0:Nat):Int)):=by
    rcases h0.rd with⟨hv,_⟩|⟨b,o,c,hv,_,_,_,h5⟩
    · injection hv with hv;cases hv
    · injection hv with e1 e2 e3
      injection e1 with e1
      injection e1 with e4 e5 e6
      subst e4 e5 e3;exact h5
   refine(lS g 0 cap xs hB hn hc w hrd).mono fun e w' ⟨he,hw⟩=>⟨_,he,?_,hw⟩;have:=h0.take (ag (aj xs)).length hd.2;rwa [hd.1]at this
theorem gV (s:ByteArray)(w:World)(hs:s.size≤maxLen) :
 Calls Tryz.prog 70 #[.string s] w fun e w'=>e=.returned (.bool (vld s.data.toList))∧w=w':=by
 unfold maxLen at hs
 have hcase:s.size=0∨(s.size=1∨(1<s.size∧∃ h:0<s.size,((s[0].toNat:Int) != 48)=true))∨(1<s.size∧∃ h:0<s.size,((s[0].toNat:Int) != 48)=false):=by
  rcases Nat.lt_trichotomy s.size 1 with h|h|h
  · left;omega
  · right;left;left;exact h
  · have h0:0<s.size:=by omega
    by_cases hc:(s[0].toNat:Int)=48
    · right;right;exact⟨h,h0,by rw[bne_eq_false_iff_eq];exact hc⟩
    · right;left;right;exact⟨h,h0,by rw[bne_iff_ne];exact hc⟩
 rcases hcase with h0|(h1|⟨h1,h2,h3⟩)|⟨h1,h2,h3⟩
 · have HF:=hid (show vld s.data.toList=false by rw[rJ h0];rfl)
   have k1:s.size≤0:=by omega
   have k2:((s.size:Int)==1)=false:=beq_eq_false_iff_ne.2 (by omega);clear h0;go_enter func70,ntmps70
   go_wp2;refine wp_loop_rounds 1 ?_;rw[rounds_succ];go_wp2;go_ret
   exact⟨dD HF.o.symm,rfl⟩
 · have k2:((s.size:Int)==1)=true:=beq_iff_eq.2 (by omega)
   have H1:=hid h1;have k3:0<s.size:=by omega
   clear h1;go_enter func70,ntmps70
   go_wp2;go_loop [3] (fun i=>∃ k:Nat,k≤s.size∧i=.int .i64 k∧alld s k) (fun i=>s.size-(intOf i).toNat)
   case atStart=>exact⟨0,Nat.zero_le _,rfl,lG s⟩
   case round =>
    obtain⟨k,hk,rfl,ha⟩:=hrel;go_wp2
    all_goals first
        | (go_round
           case rel=>exact⟨k+1,by omega,by go_num,lH ha (by assumption) (by omega) (by omega)⟩
           case measure=>simp[intOf];omega)
        | (have hlt:k<s.size:=by assumption
           go_ret
           exact⟨dD (qJ hlt (by omega)).symm,rfl⟩)
        | (obtain rfl:k=s.size:=by omega
           go_ret
           exact⟨dD (uZ k3 ha (Or.inl H1.o)).symm,rfl⟩)
 · have k2:((s.size:Int)==1)=false:=beq_eq_false_iff_ne.2 (by omega)
   go_enter func70,ntmps70
   go_wp2;go_loop [3] (fun i=>∃ k:Nat,k≤s.size∧i=.int .i64 k∧alld s k) (fun i=>s.size-(intOf i).toNat)
   case atStart=>exact⟨0,Nat.zero_le _,rfl,lG s⟩
   case round =>
    obtain⟨k,hk,rfl,ha⟩:=hrel;go_wp2
    all_goals first
        | (go_round
           case rel=>exact⟨k+1,by omega,by go_num,lH ha (by assumption) (by omega) (by omega)⟩
           case measure=>simp[intOf];omega)
        | (have hlt:k<s.size:=by assumption
           go_ret
           exact⟨dD (qJ hlt (by omega)).symm,rfl⟩)
        | (obtain rfl:k=s.size:=by omega
           go_ret
           exact⟨dD (uZ h2 ha (Or.inr (by rw[bne_iff_ne]at h3;exact h3))).symm,rfl⟩)
 · have k2:((s.size:Int)==1)=false:=beq_eq_false_iff_ne.2 (by omega)
   go_enter func70,ntmps70
   go_wp2;go_loop [3] (fun i=>∃ k:Nat,k≤s.size∧i=.int .i64 k∧alld s k) (fun i=>s.size-(intOf i).toNat)
   case atStart=>exact⟨0,Nat.zero_le _,rfl,lG s⟩
   case round =>
    obtain⟨k,hk,rfl,ha⟩:=hrel;go_wp2
    all_goals first
        | (go_round
           case rel=>exact⟨k+1,by omega,by go_num,lH ha (by assumption) (by omega) (by omega)⟩
           case measure=>simp[intOf];omega)
        | (have hlt:k<s.size:=by assumption
           go_ret
           exact⟨dD (qJ hlt (by omega)).symm,rfl⟩)
        | (obtain rfl:k=s.size:=by omega
           go_ret
           exact⟨dD (wV h1 (by rw[bne_eq_false_iff_eq]at h3;exact h3)).symm,rfl⟩)
theorem z0w {s:ByteArray}(h:s.data.toList.all isD=true){a i:Nat}(hai:a≤i)(hi:i<s.size) :
 aH ((s.data.toList.drop a).take (i+1-a))=aH ((s.data.toList.drop a).take (i-a))*10+(s[i].toNat-48)∧48≤s[i].toNat∧s[i].toNat≤57:=by
 have h1:=List.all_eq_true.1 h (s.data.toList[i]'(by rw[aB];exact hi)) (List.getElem_mem _);rw[fI,gp s i hi]at h1
 have e:(s.data.toList.drop a).take (i+1-a)=(s.data.toList.drop a).take (i-a)++[s[i]]:=by
  rw[show i+1-a=(i-a)+1 by omega,List.take_succ_eq_append_getElem (by rw[List.length_drop,aB];omega)];congr 2
  rw[List.getElem_drop,← gp s i hi];congr 1
  omega
 rw[e,ll];exact⟨rfl,h1⟩
theorem z4x {s:ByteArray}(h:s.data.toList.all isD=true)(a n:Nat)(hn:n≤8):aH ((s.data.toList.drop a).take n)<100000000:=by
 have h1:=il ((s.data.toList.drop a).take n) (by
  rw[List.all_eq_true]at h ⊢
  exact fun c hc=>h c (List.mem_of_mem_drop (List.mem_of_mem_take hc)))
 have h2:10^((s.data.toList.drop a).take n).length≤10^8:=Nat.pow_le_pow_right (by decide) (by rw[List.length_take];omega);omega
theorem jO (s:ByteArray)(h:s.data.toList.all isD=true)(hl:s.size≤100000)(w:World) :
 Calls Tryz.prog 72 #[.string s] w fun e w'=>∃ v,e=.returned v∧Own .u32 92 w.heap.size w' v (ag (aH s.data.toList))∧Below w.heap.size w w':=by
 obtain⟨i0,hi,hz0,hz1,hz2⟩:=info_parts Tryz.info92;have H:=hid h;clear h;have HO0:=hid (World.ownsRow_nil w w.heap.size 92 1);go_enter func72,ntmps72
 go_wp2;go_loopw [3,4] (fun v ee wr=>∃ (z:Int) (os:List Nat),-9≤z∧z≤s.size∧ee=.int .i64 z∧os.length+z.toNat≤s.size∧Hid (wr.ownsRow w.heap.size 92 1 v os.length (cls .u32 os))∧Hid (iB s.data.toList os z.toNat)∧Hid (Below w.heap.size w wr)) (fun _ ee _=>(intOf ee).toNat)
 case atStart=>exact⟨(s.size:Int),[],by omega,by omega,rfl,by simp,HO0,by have:=iB.start s.data.toList;rw[aB]at this;exact this,Below.refl _ _⟩
 case round =>
  obtain⟨z,os,hz9,hzs,rfl,hlen,ho,hr,hn⟩:=hrel;by_cases hz:0<z
  · obtain⟨ez,rfl⟩:=Int.eq_ofNat_of_zero_le (show 0≤z by omega)
    obtain⟨a,ha⟩:∃ a:Nat,a=ez-9:=⟨_,rfl⟩;rw[Int.toNat_natCast]at hr hlen;obtain⟨hst,hbd⟩:=hr.o.step (a:=a) H.o (by rw[aB];omega) (by omega) (by omega);obtain ⟨HST,HBD⟩:=aC hst hbd;have hmx:max 0 ((ez:Int)-9)=(a:Int):=by omega
    have hae:a≤ez:=by omega
    have hea:ez≤a+9:=by omega
    have HA:=hid ha;clear hst hbd ha hr;go_wp2;obtain⟨wo,rfl⟩:∃ wo:World,wo=wr:=⟨_,rfl⟩;go_loop [5,6] (fun ww ii=>∃ i m:Nat,a≤i∧i≤ez∧ii=.int .i64 i∧ww=.int .u32 (m:Int)∧Hid (m=aH ((s.data.toList.drop a).take (i-a)))) (fun _ ii=>ez-(intOf ii).toNat)
    case atStart=>exact⟨a,0,Nat.le_refl _,hae,rfl,rfl,by rw[Nat.sub_self];rfl⟩
    case round =>
        obtain⟨i,m,hai,hie,rfl,rfl,hm⟩:=hrel;by_cases hlt:i<ez
        · obtain⟨h1,h2,h3⟩:=z0w H.o hai (show i<s.size by omega)
          have h4:m<100000000:=by rw[hm.o];exact z4x H.o a (i-a) (by omega)
          have h5:i<s.size:=by omega
          have H1:=hid h1;clear h1;have k4:(m:Int)≤99999999:=by omega
          clear h4;go_wp2;go_round
          case rel=>exact⟨i+1,m*10+(s[i].toNat-48),by omega,by omega,by go_num,by congr 1;omega,by have:=hm.o;subst this;exact H1.o.symm⟩
          case measure=>simp[intOf];omega
        · have hie2:i=ez:=by omega
          have hm':=hm.o;rw[hie2]at hm';have HM:=hid hm';clear hm hm' hie2;go_wp2_with (at_builtin;refine wpList_append_own _ rfl _ _ 46 rfl w.heap.size 92 i0 (.int .u32 0) 1 4 underlying46 hi hz0 hz1 hz2 rfl (by decide) _ _ _ rfl (ho.o.alloc _) ⟨wo.heap.size,0,none⟩ 1 1 [.int .u32 (m:Int)] rfl rfl (cells_one _ _ _) (by intro u hu;simp at hu;subst hu;rfl) (by unfold maxLen;omega) (by omega) (by have:=hn.o.size;simp;omega) ?_)
          intro v' w1 hown' hgrow _;have HO:=hid hown';have HN:=hid ((hn.o.alloc hn.o.size _).grown hgrow (by have:=hn.o.size;simp;omega) (fun k hk=>(ho.o.lt k hk).1));clear hown' hgrow;go_wp2;go_roundw
          case rel=>exact⟨(ez:Int)-9,os++[m],by omega,by omega,rfl,by simp;omega,by have:=HO.o;rw[bU,List.length_append];exact this,by rw[show((ez:Int)-9).toNat=a by have:=HA.o;omega,HM.o];exact HST,HN⟩
          case measure=>simp[intOf];omega
  · have hz0':z.toNat=0:=by omega
    have hr':=hr.o;rw[hz0']at hr';obtain⟨hB,hv⟩:=hr'.done;have htr:=ic 92 w.heap.size _ os hB wr ho.o;rw[hv]at htr;have HTR:=hid htr;clear hr' hB hv htr hz0';go_wp2_with fail
    refine HTR.o.mono ?_;rintro e w2 ⟨v',rfl,hown,rfl⟩;go_wp2;go_ret
    exact⟨v',rfl,hown,hn.o⟩
end Go.Proofs.YtkiklcbhglpooaaGreatDoor
open Go.Lib (hid)
namespace Go.Proofs.YtkiklcbhglpooaaGreatDoor
open Go.RowKit Go.Gb
theorem kL {k:IntKind}{a b:Int}(h:a=b):Value.int k a=.int k b:=by rw[h]
theorem z3i {d:Nat}(h:d<10):Value.int .u8 (48+(d:Int))=.int .u8 ((UInt8.ofNat (48+d)).toNat:Int):=by
 rw[gD h];exact kL (by omega)
theorem xq {W:World}{B:Nat}{v:Value}{bs:List UInt8}{d:Nat}(hd:d<10)(h:W.ownsRow B 5 1 v (bs.length+1) (Lib.byteCells bs++[.int .u8 (48+(d:Int))])):W.ownsRow B 5 1 v (bs++[UInt8.ofNat (48+d)]).length (Lib.byteCells (bs++[UInt8.ofNat (48+d)])):=by
 rw[z3i hd]at h;rw[List.length_append,Lib.byteCells_append];exact h
theorem z3z (b o c:Nat)(xs:List Nat)(hx:∀ x∈xs,x<BB)(hp:0<xs.length)(hlast:xs.getD (xs.length-1) 0≠0)(hl:xs.length≤10000)(w:World)(hb:b<w.heap.size)
 (hcx:∀ i,i<xs.length→w.cell? ⟨b,o+i,none⟩=some (.int .u32 ((xs.getD i 0:Nat):Int))) :
 CR 130 #[.slice (some ⟨b,o,none⟩) xs.length c] w (.string ⟨(Lib.decDigits (aj xs)).toArray⟩):=by
 obtain⟨i0,hi,hz0,hz1,hz2⟩:=info_parts Tryz.info5;obtain ⟨HX,HCX,HLA,HO0⟩:=aP hx hcx hlast (World.ownsRow_nil w w.heap.size 5 1);have d0:((xs.length:Int)==0)=false:=beq_eq_false_iff_ne.2 (by omega);have HP:=hid hp;clear hx hcx hlast hp;go_enter func130,ntmps130
 go_wp2;go_loopw [3,4] (fun v ii wr=>∃ (i:Nat) (bs:List UInt8),i≤xs.length∧ii=.int .i64 i∧Hid (TOut xs bs i)∧Hid (wr.ownsRow w.heap.size 5 1 v bs.length (Lib.byteCells bs))∧Hid (Below w.heap.size w wr)) (fun _ ii _=>xs.length-(intOf ii).toNat)
 case atStart=>exact⟨0,[],Nat.zero_le _,rfl,TOut.zero HP.o,HO0,Below.refl _ _⟩
 case round =>
  obtain⟨i,bs,hi',rfl,hT,ho,hn⟩:=hrel;by_cases hlt:i<xs.length
  · have hcell:=(hn.o.cell (p:=⟨b,o+i,none⟩) hb).trans (HCX.o i hlt)
    have HS:=hid (TIn.start hT.o hlt);have hq0:=(TIn.start hT.o hlt).lt hlt HX.o;clear hT;generalize xs.getD i 0=x at *;go_wp2;obtain⟨wo,rfl⟩:∃ wo:World,wo=wr:=⟨_,rfl⟩;go_loopw [3,5,6] (fun v qq kk wr=>∃ (k q:Nat) (bs:List UInt8),k≤9∧q<1000000000∧kk=.int .i64 k∧qq=.int .u32 (q:Int)∧Hid (TIn xs bs i k q)∧Hid (wr.ownsRow w.heap.size 5 1 v bs.length (Lib.byteCells bs))∧Hid (Below w.heap.size w wr)) (fun _ _ kk _=>9-(intOf kk).toNat)
    case atStart=>exact⟨0,x,bs,by omega,hq0,rfl,rfl,HS,ho,hn⟩
    case round =>
        clear HS ho hn hcell hq0;obtain⟨k,q,bs,hk9,hq9,rfl,rfl,hI,ho,hn⟩:=hrel;have hbl:bs.length≤90009:=by have:=hI.o.len;omega
        have hq9':(q:Int)≤999999999:=by omega
        obtain⟨d,hd⟩:∃ d:Nat,d=q%10:=⟨_,rfl⟩;have hd10:d<10:=by omega
        have hmod:(q:Int)%10=(d:Int):=by omega
        have hd9:(d:Int)≤9:=by omega
        have w1:IntKind.u8.wrap (48+(d:Int))=48+(d:Int):=by rw[IntKind.wrap_u8];omega
        by_cases hg:k<9∧(i+1<xs.length∨0<q)
        · obtain⟨hk,hg⟩:=hg
          have HST:=hid (show TIn xs (bs++[UInt8.ofNat (48+d)]) i (k+1) (q / 10) by rw[hd];exact hI.o.step hlt HX.o hk hg);obtain ⟨Hd,Hd10⟩:=aC hd hd10;have k1:(k:Int)<9:=by omega
          clear hd hd10 hI;by_cases hl2:i+1<xs.length
          · have k2:(i:Int)+1<(xs.length:Int):=by omega
            clear hg;go_wp2_with (at_builtin;refine wpList_append_own _ rfl _ _ 182 rfl w.heap.size 5 i0 (.int .u8 0) 1 1 underlying182 hi hz0 hz1 hz2 rfl (by decide) _ _ _ rfl (ho.o.alloc _) ⟨wr.heap.size,0,none⟩ 1 1 [.int .u8 (48+(d:Int))] rfl rfl (cells_one _ _ _) (by intro u hu;simp at hu;subst hu;rfl) (by unfold maxLen;omega) (by omega) (by have:=hn.o.size;simp;omega) ?_)
            intro v' w1 hown' hgrow _;have HO:=hid (xq Hd10.o hown');have HN:=hid ((hn.o.alloc hn.o.size _).grown hgrow (by have:=hn.o.size;simp;omega) (fun k hk=>(ho.o.lt k hk).1));clear hown' hgrow;go_wp2;go_roundw
            case rel=>exact⟨k+1,q / 10,_,by omega,by omega,by go_num,kL (by omega),HST,HO,HN⟩
            case measure=>simp[intOf];omega
          · have k2:decide ((i:Int)+1<(xs.length:Int))=false:=decide_eq_false (by omega)
            have k3:0<(q:Int):=by omega
            clear hg;go_wp2_with (at_builtin;refine wpList_append_own _ rfl _ _ 182 rfl w.heap.size 5 i0 (.int .u8 0) 1 1 underlying182 hi hz0 hz1 hz2 rfl (by decide) _ _ _ rfl (ho.o.alloc _) ⟨wr.heap.size,0,none⟩ 1 1 [.int .u8 (48+(d:Int))] rfl rfl (cells_one _ _ _) (by intro u hu;simp at hu;subst hu;rfl) (by unfold maxLen;omega) (by omega) (by have:=hn.o.size;simp;omega) ?_)
            intro v' w1 hown' hgrow _;have HO:=hid (xq Hd10.o hown');have HN:=hid ((hn.o.alloc hn.o.size _).grown hgrow (by have:=hn.o.size;simp;omega) (fun k hk=>(ho.o.lt k hk).1));clear hown' hgrow;go_wp2;go_roundw
            case rel=>exact⟨k+1,q / 10,_,by omega,by omega,by go_num,kL (by omega),HST,HO,HN⟩
            case measure=>simp[intOf];omega
        · have HD:=hid (hI.o.done hlt HX.o HLA.o (by omega))
          clear hd hd10 hmod w1;by_cases hk:k<9
          · have k1:(k:Int)<9:=by omega
            have k2:decide ((i:Int)+1<(xs.length:Int))=false:=decide_eq_false (by omega);have k3:decide (0<(q:Int))=false:=decide_eq_false (by omega);have k4:decide (0<q)=false:=decide_eq_false (by omega);have k5:¬ 0<q:=by omega
            clear hg hI;go_wp2;go_roundw
            case rel=>exact⟨i+1,bs,by omega,by go_num,HD,ho,hn⟩
            case measure=>simp[intOf];omega
          · have k1:decide ((k:Int)<9)=false:=decide_eq_false (by omega)
            have k2:¬ (k:Int)<9:=by omega
            clear hg hI;go_wp2;go_roundw
            case rel=>exact⟨i+1,bs,by omega,by go_num,HD,ho,hn⟩
            case measure=>simp[intOf];omega
  · have hi2:i=xs.length:=by omega
    have hT':=hT.o;have hbl:=hT'.len HX.o;rw[hi2]at hT';obtain⟨hrev,hbp⟩:=hT'.done;obtain⟨g,cap,rfl,hg,hcm,hR⟩:=RowB.of_own ho.o hbp;obtain⟨n,hn0⟩:∃ n,n=bs.length:=⟨_,rfl⟩;have HR0:=hid (show RowB wr g cap (swp bs 0) by rw[z1X];exact hR);obtain ⟨Hg,HREV⟩:=aC hg hrev;rw[← hn0]at hbl hbp;have Hn0:=hid hn0;have k1:decide ((i:Int)<(xs.length:Int))=false:=decide_eq_false (by omega);rw[← hn0];clear hT hT' hrev ho hR hg hi2 hn0 hcm;go_wp2;obtain⟨wo,rfl⟩:∃ wo:World,wo=wr:=⟨_,rfl⟩;go_loopw [7,8] (fun ii kk wr=>∃ (i k:Nat),i+k+1=n∧ii=.int .i64 i∧kk=.int .i64 k∧Hid (RowB wr g cap (swp bs i))∧Hid (Below w.heap.size w wr)) (fun ii _ _=>n-(intOf ii).toNat)
    case atStart=>exact⟨0,n-1,by omega,rfl,kL (by omega),HR0,hn⟩
    case round =>
        clear HR0 hn;obtain⟨i,k,hik,rfl,rfl,hR,hn⟩:=hrel;have hnl:=Hn0.o;by_cases hlk:i<k
        · have hkk:bs.length-1-i=k:=by omega
          have hc1:=hR.o.cell (i:=i) (by rw[dU];omega);have hc2:=hR.o.cell (i:=k) (by rw[dU];omega);rw[z4j bs i (by omega)]at hc1;have hh:=z1Z bs i (by omega);rw[hkk]at hh;rw[hh]at hc2;have hs:=z1Y bs i (by omega);rw[hkk]at hs;have hf1:=hR.o.free i;have hf2:=hR.o.free k;obtain⟨x,hx⟩:∃ x,x=bs.getD i 0:=⟨_,rfl⟩;obtain⟨y,hy⟩:∃ y,y=bs.getD k 0:=⟨_,rfl⟩;rw[← hx]at hc1 hs;rw[← hy]at hc2 hs
          have HSET:=hid (show RowB (((wr.setCell ⟨g,i,none⟩ (.int .u8 (y.toNat:Int))).setCell ⟨g,k,none⟩ (.int .u8 (x.toNat:Int))).drew) g cap (swp bs (i+1)) by
           have h1:=(hR.o.set i y).set k x;rw[hs]at h1
           exact h1)
          have HB:=hid (((hn.o.setCell (p:=⟨g,i,none⟩) Hg.o (.int .u8 (y.toNat:Int))).setCell (p:=⟨g,k,none⟩) Hg.o (.int .u8 (x.toNat:Int))).drew);have hne:¬ i=k:=by omega
          have j1:(i:Int)<(k:Int):=by omega
          have j2:(k:Int)<(n:Int):=by omega
          have hc3:(wr.setCell ⟨g,i,none⟩ (.int .u8 (y.toNat:Int))).cell? ⟨g,k,none⟩=some (.int .u8 (y.toNat:Int)):=(World.cell?_setCell_other _ _ _ _ (by intro e;injection e with e1 e2;exact hne e2)).trans hc2;clear hx hy hs hh hkk hR hn hnl;generalize x.toNat=a at *;generalize y.toNat=b2 at *;go_wp2;go_region
          go_wp2;go_roundw
          case rel=>exact⟨i+1,k-1,by omega,by go_num,kL (by omega),HSET,HB⟩
          case measure=>simp[intOf];omega
        · have hsd:=z2a bs i (by omega)
          have hR':=hR.o;rw[hsd,HREV.o]at hR';have hdl:(Lib.decDigits (aj xs)).length=n:=by rw[← HREV.o,List.length_reverse];omega
          have hcv:(convert 182 9 (.slice (some ⟨g,0,none⟩) n cap)).run Tryz.prog wr=.ok (.string ⟨(Lib.decDigits (aj xs)).toArray⟩) wr:=by
           have h:=run_convert_bytes_back (P:=Tryz.prog) wr 182 9 5 ⟨g,0,none⟩ cap (Lib.decDigits (aj xs)) underlying182 underlying5 underlying9 (fun j hj=>by
            have h1:=hR'.cell hj;rw[Lib.add_plain,Nat.zero_add,h1]
            simp[List.getD,hj])
           rw[hdl]at h;exact h
          have k2:decide ((i:Int)<(k:Int))=false:=decide_eq_false (by omega);clear hsd hR hR' hdl hnl;go_wp2;go_ret
          exact⟨rfl,hn.o⟩
