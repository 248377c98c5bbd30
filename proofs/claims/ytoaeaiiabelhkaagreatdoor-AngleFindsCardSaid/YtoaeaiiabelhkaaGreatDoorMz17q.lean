/- texts -/
import Derived.Test.YtoaeaiiabelhkaaGreatDoorMz8q
set_option maxRecDepth 100000
set_option maxHeartbeats 20000000
open Go.Lib (hid)
namespace Go.Proofs.YtoaeaiiabelhkaaGreatDoor
open Go.RowKit Go.Gb
theorem ym {B:Nat}{w:World}{a:Option Addr}{n c:Nat}{xs:List Nat}(h:Gb.Own .u64 112 B w (.slice a n c) xs)(hp:0<n):∃ g,a=some ⟨g,0,none⟩∧n=xs.length∧B≤g∧g<w.heap.size:=by
 obtain⟨h1,h2⟩:=h;rcases h2 with⟨h2,_⟩|⟨g,cap,cur,hv,hg,hh,_⟩
 · injection h2 with e1 e2 e3;omega
 · injection hv with e1 e2 e3
   exact⟨g,e1,e2,hg,(Array.getElem?_eq_some_iff.1 hh).1⟩
theorem yn {B:Nat}{w:World}{g n c:Nat}{xs:List Nat}(h:Gb.Own .u64 112 B w (.slice (some ⟨g,0,none⟩) n c) xs)(hn:n=xs.length){i:Nat}(hi:i<n):w.cell? ⟨g,i,none⟩=some (.int .u64 ((xs.getD i 0:Nat):Int)):=by
 subst hn;have:=World.ownsRow.cellAt (w:=w) (size:=1) h i (by omega);rw[this];exact jF hi
theorem yj {B:Nat}{w:World}{g n c:Nat}{xs:List Nat}(h:Gb.Own .u64 112 B w (.slice (some ⟨g,0,none⟩) n c) xs)(hn:n=xs.length)(i:Nat):w.frozen? ⟨g,i,none⟩=false:=by
 subst hn;exact World.ownsRow.frozenAt (w:=w) (size:=1) h i
theorem uf {B:Nat}{w:World}{g n c:Nat}{xs:List Nat}(h:Gb.Own .u64 112 B w (.slice (some ⟨g,0,none⟩) n c) xs)(hn:n=xs.length)(i r:Nat):Gb.Own .u64 112 B (w.setCell ⟨g,i,none⟩ (.int .u64 (r:Int))) (.slice (some ⟨g,0,none⟩) n c) (xs.set i r):=by
 subst hn;have:=(World.ownsRow.stored (w:=w) (size:=1) h i (.int .u64 (r:Int))).1;unfold Gb.Own
 rw[rZ,List.length_set];exact this
theorem ug {B:Nat}{w:World}{v:Value}{xs:List Nat}(h:Gb.Own .u64 112 B w v xs){g:Nat}(hg:¬ At v g)(i:Nat)(u:Value):Gb.Own .u64 112 B (w.setCell ⟨g,i,none⟩ u) v xs :=
 h.kp (S:=fun k=>k=g) ((Kp.refl (fun k=>k=g) w).set (p:=⟨g,i,none⟩) (fun _=>rfl) u) (fun _ hk e=>hg (e▸hk))
theorem tJ (w:World)(p:Addr)(u:Value):(w.setCell p u).heap.size=w.heap.size:=by simp[World.setCell]
theorem z0O (ys r:List Nat)(x:Nat):(ys++(x :: r)).getD ys.length 0=x:=by simp[List.getD]
theorem z0N (ys r:List Nat)(x v:Nat):(ys++(x :: r)).set ys.length v=(ys++[v])++r:=by simp
theorem yM {p q:Int}{X Y os:List Nat}{i:Nat}{k:Int}(h:mD p q X Y os i k)(hx:X.getD i 0<BB)(hy:Y.getD i 0<BB)(hp1 : -1000000000≤p)(hp2:p≤1000000000)(hq1 : -1000000000≤q)(hq2:q≤1000000000) :
 ∃ (r:Nat) (j:Int),mD p q X Y (os++[r]) (i+1) j∧r<1000000000 ∧ -3000000000≤j∧j≤3000000000 ∧
   ∀ W,Calls Tryz.prog 247 #[.int .i64 (p*(X.getD i 0:Int)+q*(Y.getD i 0:Int)+k)] W fun e w'=>e=.returned (.tuple #[.int .u64 (r:Int),.int .i64 j])∧W=w':=by
 obtain⟨b0,b1,hb⟩:=h.step hx hy hp1 hp2 hq1 hq2;refine⟨_,_,hb,by omega,hb.2.2.1,hb.2.2.2.1,fun W=>?_⟩;have hs:=z0z _ b0 b1 W;rw[Int.toNat_of_nonneg (Int.emod_nonneg _ (by decide))];exact hs
theorem jG (B:Nat)(v1 v2:Value)(xs ys:List Nat)(a b c d:Int)(z1 z2:Nat)(w:World)
 (ha1 : -1000000000≤a) (ha2:a≤1000000000) (hb1 : -1000000000≤b) (hb2:b≤1000000000) (hc1 : -1000000000≤c) (hc2:c≤1000000000) (hd1 : -1000000000≤d) (hd2:d≤1000000000)
 (hx:∀ x∈xs,x<BB) (hy:∀ y∈ys,y<BB) (hlx:xs.length≤90000) (hly:ys.length≤90000)
 (e1:a*(ai xs:Int)+b*(ai ys:Int)=(z1:Int)) (e2:c*(ai xs:Int)+d*(ai ys:Int)=(z2:Int))
 (h1:Gb.Own .u64 112 B w v1 xs) (h2:Gb.Own .u64 112 B w v2 ys) (hs:Apt v1 v2) (hB:B≤w.heap.size) :
 Calls Tryz.prog 232 #[v1,v2,.int .i64 a,.int .i64 b,.int .i64 c,.int .i64 d] w fun e w'=>∃ u1 u2,e=.returned (.tuple #[u1,u2])∧Gb.Own .u64 112 B w' u1 (ae z1)∧Gb.Own .u64 112 B w' u2 (ae z2) ∧
  Apt u1 u2∧fT w v1 u1∧fT w v2 u2∧Kp (fun g=>At v1 g∨At v2 g) w w':=by
 obtain⟨n,hn⟩:∃ n,n=max xs.length ys.length:=⟨_,rfl⟩;have hmx:max (xs.length:Int) (ys.length:Int)=(n:Int):=by omega
 obtain⟨X,hX⟩:∃ X,X=xs++List.replicate (n-xs.length) 0:=⟨_,rfl⟩;obtain⟨Y,hY⟩:∃ Y,Y=ys++List.replicate (n-ys.length) 0:=⟨_,rfl⟩;have hXl:X.length=n:=by rw[hX,List.length_append,List.length_replicate];omega
 have hYl:Y.length=n:=by rw[hY,List.length_append,List.length_replicate];omega
 have hXB:∀ x∈X,x<BB:=by
  intro x hx';rw[hX]at hx';rcases List.mem_append.1 hx' with h|h
  · exact hx x h
  · rw[(List.mem_replicate.1 h).2];exact bN
 have hYB:∀ y∈Y,y<BB:=by
  intro y hy';rw[hY]at hy';rcases List.mem_append.1 hy' with h|h
  · exact hy y h
  · rw[(List.mem_replicate.1 h).2];exact bN
 have hXv:ai X=ai xs:=by rw[hX];exact eQ xs _
 have hYv:ai Y=ai ys:=by rw[hY];exact eQ ys _
 rw[← hXv,← hYv]at e1 e2
 have HP1:=hid (show ∀ W,Gb.Own .u64 112 B W v1 xs→B≤W.heap.size→Calls Tryz.prog 246 #[v1,.int .i64 (n:Int)] W fun e w'=>∃ u,e=.returned u∧Gb.Own .u64 112 B w' u X∧fT W v1 u∧Kp (At v1) W w' from
  fun W h hBW=>by rw[hX];exact z16 B v1 xs n (by omega) (by omega) W h hBW)
 have HP2:=hid (show ∀ W,Gb.Own .u64 112 B W v2 ys→B≤W.heap.size→Calls Tryz.prog 246 #[v2,.int .i64 (n:Int)] W fun e w'=>∃ u,e=.returned u∧Gb.Own .u64 112 B w' u Y∧fT W v2 u∧Kp (At v2) W w' from
  fun W h hBW=>by rw[hY];exact z16 B v2 ys n (by omega) (by omega) W h hBW)
 have hn9:n≤90000:=by omega
 obtain⟨a1,c1,rfl⟩:=aW h1.rd;obtain⟨a2,c2,rfl⟩:=aW h2.rd;obtain ⟨HXB,HYB,HXL,HYL,HE1,HE2,H1,H2,HS⟩:=bQ hXB hYB hXl hYl e1 e2 h1 h2 hs;have HB:=hid hB;clear hn hX hY hXl hYl hXB hYB hXv hYv e1 e2 h1 h2 hs hB hx hy;go_enter Tryz.func232,Tryz.ntmps232
 go_wp2_with fail
 refine(HP1.o _ H1.o HB.o).mono ?_;rintro e w1 ⟨u1,rfl,ho1,hno1,hk1⟩;have ho2:=H2.o.kp hk1 (fun g h h'=>HS.o g h' h);have hs1:Apt u1 (.slice a2 ys.length c2):=HS.o.newOr hno1 (fun g hg=>(H2.o.at hg).2);obtain ⟨HO1,HO2,HN1,HK1,HS1⟩:=bz ho1 ho2 hno1 hk1 hs1;clear ho1 ho2 hno1 hk1 hs1;go_wp2_with fail
 refine(HP2.o _ HO2.o (Nat.le_trans HB.o HK1.o.size)).mono ?_;rintro e w2 ⟨u2,rfl,ho2,hno2,hk2⟩;have ho1:=HO1.o.kp hk2 (fun g h h'=>HS1.o g h h');have hs2:Apt u1 u2:=(HS1.o.symm.newOr hno2 (fun g hg=>(HO1.o.at hg).2)).symm;have HN2:=hid (show fT w (.slice a2 ys.length c2) u2 from(fT.refl w _).trans hno2 HK1.o.size);have HK2:=hid (show Kp (fun g=>At (.slice a1 xs.length c1) g∨At (.slice a2 ys.length c2) g) w w2 from(HK1.o.mono (fun _ h=>Or.inl h)).trans hk2 (fun _ _ h=>Or.inr h));obtain⟨b1,k1,rfl⟩:=aW ho1.rd;obtain⟨b2,k2,rfl⟩:=aW ho2.rd;rw[HXL.o]at ho1 hs2 HN1;rw[HYL.o]at ho2 hs2 HN2;rw[HXL.o,HYL.o];obtain ⟨HO1,HO2,HS2⟩:=ak ho1 ho2 hs2;clear ho1 ho2 hno2 hk2 hs2 HP1 HP2 HS1 HK1;go_wp2
 go_loopw [15,16,17,18,19,20,34] (fun f1 f2 _ _ _ _ ii wr=>∃ (i:Nat) (j1 j2:Int) (o1 o2:List Nat),i≤n∧ii=.int .i64 (i:Int)∧f1=.int .i64 j1∧f2=.int .i64 j2∧Hid (mD a b X Y o1 i j1)∧Hid (mD c d X Y o2 i j2) ∧
  Hid (Gb.Own .u64 112 B wr (.slice b1 n k1) (o1++X.drop i))∧Hid (Gb.Own .u64 112 B wr (.slice b2 n k2) (o2++Y.drop i))∧Hid (Kp (fun g=>At (.slice a1 xs.length c1) g∨At (.slice a2 ys.length c2) g) w wr)∧Hid (w2.heap.size=wr.heap.size)) (fun _ _ _ _ _ _ ii _=>n-(intOf ii).toNat)
 case atStart=>exact⟨0,0,0,[],[],Nat.zero_le _,rfl,rfl,rfl,mD.start _ _ _ _,mD.start _ _ _ _,by rw[List.drop_zero];exact HO1.o,by rw[List.drop_zero];exact HO2.o,HK2.o,rfl⟩
 case round =>
  obtain⟨i,j1,j2,o1,o2,hi,rfl,rfl,rfl,hi1,hi2,hO1,hO2,hK,hZ⟩:=hrel;clear HO1 HO2 HK2;by_cases hlt:i<n
  · obtain⟨g1,rfl,hl1,hg1B,hg1⟩:=ym hO1.o (by omega)
    obtain⟨g2,rfl,hl2,hg2B,hg2⟩:=ym hO2.o (by omega);have hne:g1≠g2:=fun e=>HS2.o g1 (fG.2 rfl) (fG.2 e.symm);have hne':¬ g2=g1:=fun e=>hne e.symm;have ol1:=hi1.o.1;have ol2:=hi2.o.1;have x9:=getD_lt HXB.o i;have y9:=getD_lt HYB.o i;obtain⟨r1,m1,hn1,hr1,ml1,mu1,hs1⟩:=yM hi1.o x9 y9 ha1 ha2 hb1 hb2;obtain⟨r2,m2,hn2,hr2,ml2,mu2,hs2⟩:=yM hi2.o x9 y9 hc1 hc2 hd1 hd2;have q1:=Go.Gb.prod_bound ha1 ha2 x9;have q2:=Go.Gb.prod_bound hb1 hb2 y9;have q3:=Go.Gb.prod_bound hc1 hc2 x9;have q4:=Go.Gb.prod_bound hd1 hd2 y9;have jl1:=hi1.o.2.2.1;have ju1:=hi1.o.2.2.2.1;have jl2:=hi2.o.2.2.1;have ju2:=hi2.o.2.2.2.1;have dx:X.drop i=X.getD i 0 :: X.drop (i+1):=eU (by rw[HXL.o];exact hlt);have dy:Y.drop i=Y.getD i 0 :: Y.drop (i+1):=eU (by rw[HYL.o];exact hlt);have P1:=hO1.o;have P2:=hO2.o;rw[dx]at P1 hl1;rw[dy]at P2 hl2;have cx:=yn P1 hl1 (i:=i) hlt;have cy:=yn P2 hl2 (i:=i) hlt;have fx:=yj P1 hl1 i;have fy:=yj P2 hl2 i;have gx:=z0O o1 (X.drop (i+1)) (X.getD i 0);have gy:=z0O o2 (Y.drop (i+1)) (Y.getD i 0);rw[ol1]at gx;rw[ol2]at gy;rw[gx]at cx;rw[gy]at cy;have w1':=uf P1 hl1 i r1;have sx:=z0N o1 (X.drop (i+1)) (X.getD i 0) r1;have sy:=z0N o2 (Y.drop (i+1)) (Y.getD i 0) r2;rw[ol1]at sx;rw[ol2]at sy;rw[sx]at w1';have nA2:¬ At (.slice (some ⟨g2,0,none⟩) n k2) g1:=fun h=>hne' (fG.1 h);have nA1:¬ At (.slice (some ⟨g1,0,none⟩) n k1) g2:=fun h=>hne (fG.1 h);have w2':=uf (ug P2 nA2 i (.int .u64 (r1:Int))) hl2 i r2;rw[sy]at w2';obtain ⟨HW1,HW2⟩:=aB (ug w1' nA1 i (.int .u64 (r2:Int))) w2'
    have kk:Kp (fun g=>At (.slice a1 xs.length c1) g∨At (.slice a2 ys.length c2) g) w ((wr.setCell ⟨g1,i,none⟩ (.int .u64 (r1:Int))).setCell ⟨g2,i,none⟩ (.int .u64 (r2:Int))):=by
        refine(hK.o.set (p:=⟨g1,i,none⟩) (fun hlt=>?_) _).set (p:=⟨g2,i,none⟩) (fun hlt=>?_) _
        · rcases HN1.o g1 (fG.2 rfl) with h|h
          · exact Or.inl h
          · exact absurd hlt (by show ¬ g1<_;omega)
        · rcases HN2.o g2 (fG.2 rfl) with h|h
          · exact Or.inr h
          · exact absurd hlt (by show ¬ g2<_;omega)
    obtain ⟨HKK,HN1',HN2',HS1,HSS2⟩:=bz kk hn1 hn2 hs1 hs2;clear P1 P2 w1' w2' sx sy gx gy dx dy kk hn1 hn2 hs1 hs2 ol1 ol2 hl1 hl2 hO1 hO2 hi1 hi2 hK nA1 nA2;rw[aG]at x9 y9;generalize X.getD i 0=x at *;generalize Y.getD i 0=y at *;obtain⟨pa,hpa⟩:∃ t,t=a*(x:Int):=⟨_,rfl⟩;obtain⟨pb,hpb⟩:∃ t,t=b*(y:Int):=⟨_,rfl⟩;obtain⟨pc,hpc⟩:∃ t,t=c*(x:Int):=⟨_,rfl⟩;obtain⟨pd,hpd⟩:∃ t,t=d*(y:Int):=⟨_,rfl⟩;rw[← hpa,← hpb]at HS1;rw[← hpc,← hpd]at HSS2;rw[← hpa]at q1;rw[← hpb]at q2;rw[← hpc]at q3;rw[← hpd]at q4;have ea:=hpa.symm;have eb:=hpb.symm;have ec:=hpc.symm;have ed:=hpd.symm;obtain⟨q1l,q1u⟩:=q1;obtain⟨q2l,q2u⟩:=q2;obtain⟨q3l,q3u⟩:=q3;obtain⟨q4l,q4u⟩:=q4;have v1:IntKind.i64.wrap pa=pa:=IntWalk.i64_in _ (by omega);have v2:IntKind.i64.wrap pb=pb:=IntWalk.i64_in _ (by omega);have v3:IntKind.i64.wrap pc=pc:=IntWalk.i64_in _ (by omega);have v4:IntKind.i64.wrap pd=pd:=IntWalk.i64_in _ (by omega);have v5:IntKind.i64.wrap (pa+pb)=pa+pb:=IntWalk.i64_in _ (by omega);have v6:IntKind.i64.wrap (pa+pb+j1)=pa+pb+j1:=IntWalk.i64_in _ (by omega);have v7:IntKind.i64.wrap (pc+pd)=pc+pd:=IntWalk.i64_in _ (by omega);have v8:IntKind.i64.wrap (pc+pd+j2)=pc+pd+j2:=IntWalk.i64_in _ (by omega);clear hpa hpb hpc hpd;go_wp2_with fail
    refine(HS1.o _).mono ?_;rintro e w' ⟨rfl,rfl⟩;go_wp2_with fail
    refine(HSS2.o _).mono ?_;rintro e w' ⟨rfl,rfl⟩;clear v1 v2 v3 v4 v5 v6 v7 v8 ea eb ec ed;go_wp2;go_roundw
    case rel=>exact⟨i+1,m1,m2,o1++[r1],o2++[r2],by omega,by go_num,rfl,rfl,HN1',HN2',HW1,HW2,HKK,by show w2.heap.size=_;rw[tJ,tJ];exact hZ.o⟩
    case measure=>simp[intOf];omega
  · obtain rfl:i=n:=by omega
    obtain⟨z1n,hw1,hlt1⟩:=hi1.o.done (by rw[HXL.o];exact Nat.le_refl _) (by rw[HYL.o];exact Nat.le_refl _) HE1.o;obtain⟨z2n,hw2,hlt2⟩:=hi2.o.done (by rw[HXL.o];exact Nat.le_refl _) (by rw[HYL.o];exact Nat.le_refl _) HE2.o;have ju1:=hi1.o.2.2.2.1;have ju2:=hi2.o.2.2.2.1;have ol1:=hi1.o.1;have ol2:=hi2.o.1;obtain⟨m1,rfl⟩:=Int.eq_ofNat_of_zero_le z1n;obtain⟨m2,rfl⟩:=Int.eq_ofNat_of_zero_le z2n;rw[Int.toNat_natCast]at hw1 hlt1 hw2 hlt2;have P1:=hO1.o;have P2:=hO2.o;rw[List.drop_of_length_le (by rw[HXL.o];exact Nat.le_refl _),List.append_nil]at P1;rw[List.drop_of_length_le (by rw[HYL.o];exact Nat.le_refl _),List.append_nil]at P2;have hBw:B≤wr.heap.size:=Nat.le_trans HB.o hK.o.size;have A1:=hid (jH B _ o1 m1 (by omega) (by omega) wr P1 hBw);obtain ⟨HP2,HP1,L1,L2,W1,W2⟩:=di P2 P1 hlt1 hlt2 hw1 hw2;have hm2:m2≤3000000000:=by omega
    have ho2l:o2.length≤100000:=by omega
    have u6:=hid hBw;clear P1 P2 hlt1 hlt2 hw1 hw2 z1n z2n ju1 ju2 ol1 ol2 hBw hO1 hO2 hi1 hi2;go_wp2_with fail
    refine A1.o.mono ?_;rintro e w3 ⟨u3,rfl,ho3,hno3,hk3⟩;have T1:=hid (z2f B u3 _ L1.o w3 ho3);rw[W1.o]at T1;have P2':=HP2.o.kp hk3 (fun g h h'=>HS2.o g h' h);have hs3:Apt u3 (.slice b2 i k2):=HS2.o.newOr hno3 (fun g hg=>(HP2.o.at hg).2);have A2:=hid (jH B _ o2 m2 hm2 ho2l w3 P2' (Nat.le_trans u6.o hk3.size));obtain ⟨HNO3,HK3,HS3,HO3,HPP2⟩:=bz hno3 hk3 hs3 ho3 P2';clear ho3 hno3 hk3 hs3 P2';go_wp2_with fail
    refine T1.o.mono ?_;rintro e w' ⟨t1,rfl,hot1,hat1,rfl⟩;obtain ⟨HT1,HA1⟩:=aB hot1 hat1;clear hot1 hat1;go_wp2_with fail
    refine A2.o.mono ?_;rintro e w4 ⟨u4,rfl,ho4,hno4,hk4⟩;have T2:=hid (z2f B u4 _ L2.o w4 ho4);rw[W2.o]at T2;obtain ⟨HNO4,HK4⟩:=aB hno4 hk4;clear ho4 hno4 hk4;go_wp2_with fail
    refine T2.o.mono ?_;rintro e w' ⟨t2,rfl,hot2,hat2,rfl⟩;obtain ⟨HT2,HA2⟩:=aB hot2 hat2;clear hot2 hat2;go_wp2;go_ret2
    have zz:=hZ.o;have z3:=HK3.o.size;have zw:=hK.o.size;have zz2:w.heap.size≤w2.heap.size:=by omega
    refine⟨t1,t2,rfl,HT1.o.kp HK4.o (fun g h h'=>HS3.o g (HA1.o g h) h'),HT2.o,?_,?_,?_,?_⟩
    · intro g h h'
      exact(HS3.o.symm.newOr HNO4.o (fun g hg=>(HO3.o.at hg).2)) g (HA2.o g h') (HA1.o g h)
    · intro g h
      rcases HNO3.o g (HA1.o g h) with h'|h'
      · exact HN1.o g h'
      · right;omega
    · intro g h
      rcases HNO4.o g (HA2.o g h) with h'|h'
      · exact HN2.o g h'
      · right;omega
    · refine(hK.o.trans (HK3.o) (fun g hg h=>?_)).trans HK4.o (fun g hg h=>?_)
      · rcases HN1.o g h with h'|h'
        · exact Or.inl h'
        · omega
      · rcases HN2.o g h with h'|h'
        · exact Or.inr h'
        · omega
open Go.Lib (hid)
theorem yT (v:Value)(xs:List Nat)(i:Int)(hi:i<0)(w:World)(h:Rd .u64 w v xs) :
 Calls Tryz.prog 202 #[v,.int .i64 i] w fun e w'=>e=.returned (.int .u64 0)∧w=w':=by
 obtain⟨a,c,rfl⟩:=aW h;clear h;go_enter Tryz.func202,Tryz.ntmps202
 go_wp2;go_ret
 exact⟨rfl,rfl⟩
theorem nT (v:Value)(xs:List Nat)(n s t:Nat)(hn:2≤n)(hn2:n≤90000)(hl:xs.length≤90000)(hx:∀ x∈xs,x<BB)(hst:BB=s*t)(hs:0<s)(hh:xs.getD (n-1) 0*s<BB)(w:World)(h:Rd .u64 w v xs) :
 Calls Tryz.prog 234 #[v,.int .i64 (n:Int),.int .u64 (s:Int)] w fun e w'=>e=.returned (.int .u64 ((lead xs n s:Nat):Int))∧w=w':=by
 have c1:Calls Tryz.prog 202 #[v,.int .i64 ((n:Int)-1)] w fun e w'=>e=.returned (.int .u64 ((xs.getD (n-1) 0:Nat):Int))∧w=w':=by
  rw[show(n:Int)-1=((n-1:Nat):Int) by omega];exact iJ v xs (n-1) (by omega) (by omega) w h
 have c2:Calls Tryz.prog 202 #[v,.int .i64 ((n:Int)-2)] w fun e w'=>e=.returned (.int .u64 ((xs.getD (n-2) 0:Nat):Int))∧w=w':=by
  rw[show(n:Int)-2=((n-2:Nat):Int) by omega];exact iJ v xs (n-2) (by omega) (by omega) w h
 have c3:Calls Tryz.prog 202 #[v,.int .i64 ((n:Int)-3)] w fun e w'=>e=.returned (.int .u64 ((third xs n:Nat):Int))∧w=w':=by
  unfold third
  by_cases h3:n≥3
  · rw[if_pos h3,show(n:Int)-3=((n-3:Nat):Int) by omega]
    exact iJ v xs (n-3) (by omega) (by omega) w h
  · rw[if_neg h3]
    exact yT v xs _ (by omega) w h
 have k1:=getD_lt hx (n-2)
 have k2:third xs n<BB:=by
  unfold third
  split
  · exact getD_lt hx _
  · exact bN
 have hlt:=vT k1 k2 hst hs hh;unfold lead
 obtain ⟨C1,C2,C3⟩:=ak c1 c2 c3;clear c1 c2 c3 h
 have hsB:s≤BB:=by
  rw[hst];have:s*1≤s*t:=Nat.mul_le_mul_left _ (by rcases Nat.eq_zero_or_pos t with h0|h0;(rw[h0,Nat.mul_zero]at hst;have:=bN;omega);exact h0);omega
 have hxB:=getD_lt hx (n-1);clear hst hx;generalize xs.getD (n-1) 0=hi at *;generalize xs.getD (n-2) 0=mi at *;generalize third xs n=lo at *
 have hp2:lo*s≤1000000000*1000000000:=by
  have:=Nat.mul_le_mul (Nat.le_of_lt k2) hsB;rw[aG]at this;omega
 rw[aG]at k1 k2 hlt hsB hxB ⊢;obtain⟨p1,hp1⟩:∃ p:Nat,p=(hi*1000000000+mi)*s:=⟨_,rfl⟩;obtain⟨p2,hp2'⟩:∃ p:Nat,p=lo*s:=⟨_,rfl⟩;rw[← hp1,← hp2']at hlt ⊢;rw[← hp2']at hp2;have e1:((hi:Int)*1000000000+(mi:Int))*(s:Int)=(p1:Int):=by rw[hp1,Int.natCast_mul,Int.natCast_add,Int.natCast_mul];rfl
 have e2:(lo:Int)*(s:Int)=(p2:Int):=by rw[hp2',Int.natCast_mul]
 have b1:p1<1000000000000000000:=by omega
 have v1:IntKind.u64.wrap (p1:Int)=(p1:Int):=IntWalk.u64_in _ (by omega);have v2:IntKind.u64.wrap (p2:Int)=(p2:Int):=IntWalk.u64_in _ (by omega);clear hp1 hp2' hh;go_enter Tryz.func234,Tryz.ntmps234
 go_wp2_with fail
 refine C1.o.mono ?_;rintro e w' ⟨rfl,rfl⟩;go_wp2_with fail
 refine C2.o.mono ?_;rintro e w' ⟨rfl,rfl⟩;go_wp2_with fail
 refine C3.o.mono ?_;rintro e w' ⟨rfl,rfl⟩;go_wp2;go_ret
 exact⟨rfl,rfl⟩
def uY (X Y a b c d:Nat) (o:Bool):Prop:=Fac a b c d∧Dtm a b c d o∧(b=0∨∃ x y,iI X Y x y a b c d o∧y≤x∧d≤y∧b+d≤x-y)
def sK (X Y x y a b c d:Nat) (o:Bool):Prop:=iI X Y x y a b c d o∧Fac a b c d∧Dtm a b c d o∧y≤x
theorem sK.start {X Y:Nat}(h:Y≤X):sK X Y X Y 1 0 0 1 false:=⟨iI.start X Y,Fac.start,Dtm.start,h⟩
theorem uY.start (X Y:Nat):uY X Y 1 0 0 1 false:=⟨Fac.start,Dtm.start,Or.inl rfl⟩
theorem sK.sure {X Y x y a b c d:Nat}{o:Bool}(h:sK X Y x y a b c d o)(h1:d≤y)(h2:b+d≤x-y):uY X Y a b c d o:=⟨h.2.1,h.2.2.1,Or.inr ⟨x,y,h.1,h.2.2.2,h1,h2⟩⟩
theorem sK.step {X Y x y a b c d:Nat}{o:Bool}(h:sK X Y x y a b c d o)(hy:0<y):sK X Y y (x%y) c d (a+x / y*c) (b+x / y*d) (!o):=by
 obtain⟨h1,h2,h3,h4⟩:=h;have hq:1≤x / y:=by rw[Nat.le_div_iff_mul_le hy];omega
 exact⟨h1.step,h2.step hq,h3.step,Nat.le_of_lt (Nat.mod_lt x hy)⟩
theorem qK (X Y:Nat)(hX:X<1000000000000000000)(hYX:Y≤X)(w:World) :
 Calls Tryz.prog 233 #[.int .u64 (X:Int),.int .u64 (Y:Int)] w fun e w'=>∃ (a b c d:Nat) (o:Bool),e=.returned (Stp a b c d o)∧Hid (uY X Y a b c d o)∧Below w.heap.size w w':=by
 have z0:Sb (((w.alloc (.cells #[.int .u64 0,.int .u64 0,.int .u64 0,.int .u64 0,.bool false] 187)).alloc (.cells #[.int .u64 1,.int .u64 0,.int .u64 0,.int .u64 1,.bool false] 187)).alloc (.cells #[.int .u64 1,.int .u64 0,.int .u64 0,.int .u64 1,.bool false] 187)) w.heap.size 0 0 0 0 false:=by
  unfold Sb
  rw[Below.heap_alloc _ _ _ (by simp;omega),Below.heap_alloc _ _ _ (by simp),heap_alloc_new];rfl
 have z1:Sb (((w.alloc (.cells #[.int .u64 0,.int .u64 0,.int .u64 0,.int .u64 0,.bool false] 187)).alloc (.cells #[.int .u64 1,.int .u64 0,.int .u64 0,.int .u64 1,.bool false] 187)).alloc (.cells #[.int .u64 1,.int .u64 0,.int .u64 0,.int .u64 1,.bool false] 187)) (w.heap.size+1) 1 0 0 1 false:=by
  unfold Sb
  rw[Below.heap_alloc _ _ _ (by simp)];have:=heap_alloc_new (w.alloc (.cells #[.int .u64 0,.int .u64 0,.int .u64 0,.int .u64 0,.bool false] 187)) (.cells #[.int .u64 1,.int .u64 0,.int .u64 0,.int .u64 1,.bool false] 187);rw[World.size_alloc]at this;exact this
 have z2:Sb (((w.alloc (.cells #[.int .u64 0,.int .u64 0,.int .u64 0,.int .u64 0,.bool false] 187)).alloc (.cells #[.int .u64 1,.int .u64 0,.int .u64 0,.int .u64 1,.bool false] 187)).alloc (.cells #[.int .u64 1,.int .u64 0,.int .u64 0,.int .u64 1,.bool false] 187)) (w.heap.size+1+1) 1 0 0 1 false:=by
  unfold Sb
  have:=heap_alloc_new ((w.alloc (.cells #[.int .u64 0,.int .u64 0,.int .u64 0,.int .u64 0,.bool false] 187)).alloc (.cells #[.int .u64 1,.int .u64 0,.int .u64 0,.int .u64 1,.bool false] 187)) (.cells #[.int .u64 1,.int .u64 0,.int .u64 0,.int .u64 1,.bool false] 187);rw[World.size_alloc,World.size_alloc]at this;exact this
 obtain ⟨HZ0,HZ1,HZ2⟩:=ak z0 z1 z2;have HN0:=hid ((((Below.refl w.heap.size w).alloc (Nat.le_refl _) (.cells #[.int .u64 0,.int .u64 0,.int .u64 0,.int .u64 0,.bool false] 187)).alloc (by simp) (.cells #[.int .u64 1,.int .u64 0,.int .u64 0,.int .u64 1,.bool false] 187)).alloc (by simp;omega) (.cells #[.int .u64 1,.int .u64 0,.int .u64 0,.int .u64 1,.bool false] 187));have HX:=hid hX;have HYX:=hid hYX;clear z0 z1 z2 hX hYX;go_enter Tryz.func233,Tryz.ntmps233
 go_wp2;go_loopw [0,1] (fun xx yy wr=>∃ (x y a b c d a2 b2 c2 d2:Nat) (o o2:Bool),xx=.int .u64 (x:Int)∧yy=.int .u64 (y:Int)∧x≤1000000000000000000∧Hid (sK X Y x y a b c d o)∧Hid (uY X Y a2 b2 c2 d2 o2)∧Hid (Sb wr (w.heap.size+1) a b c d o)∧Hid (Sb wr (w.heap.size+1+1) a2 b2 c2 d2 o2)∧Hid (Sb wr w.heap.size 0 0 0 0 false)∧Hid (Below w.heap.size w wr)) (fun _ yy _=>(intOf yy).toNat)
 case atStart=>exact⟨X,Y,1,0,0,1,1,0,0,1,false,false,rfl,rfl,by have:=HX.o;omega,sK.start HYX.o,uY.start X Y,HZ1,HZ2,HZ0,HN0⟩
 case round =>
  obtain⟨x,y,a,b,c,d,a2,b2,c2,d2,o,o2,rfl,rfl,hx9,hI,hSu,hN,hS,hR,hn⟩:=hrel;clear HZ0 HZ1 HZ2 HN0;have hyx:=hI.o.2.2.2;have hd1:=hI.o.2.1.pos;obtain⟨c0,c1,c2',c3,c4⟩:=bF hN.o;by_cases h1:d≤y
  · have hbd:d≤1000000000000000000∧b≤1000000000000000000:=by
        have:=hI.o.1.bound (by omega);have:=hI.o.2.1.le (K:=1000000000000000000) (by have:=HX.o;omega) (by omega);have:=HX.o;omega
    obtain⟨hd9,hb9⟩:=hbd;obtain⟨t,ht⟩:∃ t:Nat,t=x-y:=⟨_,rfl⟩;obtain⟨s,hs⟩:∃ s:Nat,s=b+d:=⟨_,rfl⟩;have et:(x:Int)-(y:Int)=(t:Int):=by omega
    have es:(b:Int)+(d:Int)=(s:Int):=by omega
    have vt:IntKind.u64.wrap (t:Int)=(t:Int):=IntWalk.u64_in _ (by omega);have vs:IntKind.u64.wrap (s:Int)=(s:Int):=IntWalk.u64_in _ (by omega);obtain ⟨HTT,HSS⟩:=aB ht hs;clear ht hs;by_cases h2:s≤t
    · have hy0:0<y:=by omega
      have hsure:=hid (hI.o.sure h1 (by have:=HTT.o;have:=HSS.o;omega));have hnext:=hid (hI.o.step hy0);have hbd:=hI.o.1.step.bound hy0;have k1:a+x / y*c≤2000000000000000000:=by have:=HX.o;have:=HYX.o;omega
      have k2:b+x / y*d≤2000000000000000000:=by have:=HX.o;omega
      obtain⟨a',ha'⟩:∃ a':Nat,a'=a+x / y*c:=⟨_,rfl⟩;obtain⟨b',hb'⟩:∃ b':Nat,b'=b+x / y*d:=⟨_,rfl⟩;have hW:=hid (show CQ 201 #[.agg #[.int .u64 (a:Int),.int .u64 (b:Int),.int .u64 (c:Int),.int .u64 (d:Int),.bool o],.int .u64 ((x:Int) / (y:Int))] (.agg #[.int .u64 (c:Int),.int .u64 (d:Int),.int .u64 (a':Int),.int .u64 (b':Int),.bool (!o)]) from fun W=>by rw[ha',hb'];exact qH a b c d (x / y) o k1 k2 W);rw[← ha',← hb']at hnext;clear ha' hb' hbd k1 k2;have f0:=bi hS.o 0;have f1:=bi hS.o 1;have f2:=bi hS.o 2;have f3:=bi hS.o 3;have f4:=bi hS.o 4;obtain⟨e0,e1,e2,e3,e4⟩:=bF hS.o;have hS5:=fU hS.o a b c d o;have hN5:=dN (g:=w.heap.size+1+1) hN.o (by omega) a b c d o;have hR5:=dN (g:=w.heap.size+1+1) hR.o (by omega) a b c d o;have hn5:=dB hn.o (g:=w.heap.size+1+1) (by omega) a b c d o;obtain ⟨HS5,HN5,HR5,Hn5⟩:=aN hS5 hN5 hR5 hn5;clear hS5 hN5 hR5 hn5;go_wp2;clear e0 e1 e2 e3 e4 f0 f1 f2 f3 f4 c0 c1 c2' c3 c4 et es vt vs h2;rw[← set5];generalize set5 wr (w.heap.size+1+1) a b c d o=W5 at *;obtain⟨c0,c1,c2',c3,c4⟩:=bF HN5.o;have hN5':=hid (show Sb W5.drew (w.heap.size+1) a b c d o from HN5.o);have y1:(1:Int)≤(y:Int):=by omega
      have yz:((y:Int)==0)=false:=beq_eq_false_iff_ne.2 (by omega);have hq64:x / y<18446744073709551616:=Nat.lt_of_le_of_lt (Nat.div_le_self x y) (by omega);have hwq:IntKind.u64.wrap ((x:Int) / (y:Int))=(x:Int) / (y:Int):=IntWalk.u64_in _ ⟨Int.natCast_nonneg (x / y),by have:=(Int.ofNat_lt.2 hq64);omega⟩;have htm:(x:Int).tmod (y:Int)=(x:Int)%(y:Int):=rfl;clear hq64;go_region_with (go_at_call 201;go_must (refine(hW.o _).mono ?_;rintro e w1 ⟨rfl,hb1⟩;obtain⟨s0,s1,s2,s3,s4⟩:=bF (bI hN5'.o hb1);have f0:=bi (bI hN5'.o hb1) 0;have f1:=bi (bI hN5'.o hb1) 1;have f2:=bi (bI hN5'.o hb1) 2;have f3:=bi (bI hN5'.o hb1) 3;have f4:=bi (bI hN5'.o hb1) 4))
      all_goals
       have hN1:=bI hN5'.o hb1;have hS1:=bI (show Sb W5.drew (w.heap.size+1+1) a b c d o from HS5.o) hb1;have hR1:=bI (show Sb W5.drew w.heap.size 0 0 0 0 false from HR5.o) hb1;have hN2:=hid (fU hN1 c d a' b' (!o));have hS2:=hid (dN (g:=w.heap.size+1) hS1 (by omega) c d a' b' (!o));have hR2:=hid (dN (g:=w.heap.size+1) hR1 (by omega) c d a' b' (!o));have hn2:=hid (dB (Hn5.o.drew.trans (hb1.mono (show w.heap.size≤W5.drew.heap.size from Hn5.o.size))) (g:=w.heap.size+1) (by omega) c d a' b' (!o));have hlt:=hid (Nat.mod_lt x hy0);clear hN1 hS1 hR1 s0 s1 s2 s3 s4 f0 f1 f2 f3 f4 hb1 hN5' hW c0 c1 c2' c3 c4 hwq;change Exit.then _ _ Exit.normal _ (set5 w1 (w.heap.size+1) c d a' b' (!o));generalize set5 w1 (w.heap.size+1) c d a' b' (!o)=w2 at *;have hxm:(x:Int)%(y:Int)=((x%y:Nat):Int):=rfl;have hmw:IntKind.u64.wrap (((x%y:Nat):Int))=((x%y:Nat):Int):=IntWalk.u64_in _ (by have:=hlt.o;omega);obtain⟨r,hr⟩:∃ r:Nat,r=x%y:=⟨_,rfl⟩;rw[← hr]at hxm hmw hnext hlt;clear hr;go_wp2;go_quiet (fail)
       have hn3:=hid (below_drewN' hn2.o nq);have hS3:=hid (show Sb (w2.drewN nq) (w.heap.size+1+1) a b c d o from hS2.o);have hN3:=hid (show Sb (w2.drewN nq) (w.heap.size+1) c d a' b' (!o) from hN2.o);have hR3:=hid (show Sb (w2.drewN nq) w.heap.size 0 0 0 0 false from hR2.o);go_wp2;go_roundw
       case rel=>exact⟨y,r,c,d,a',b',a,b,c,d,!o,o,rfl,rfl,by omega,hnext,hsure,hN3,hS3,hR3,hn3⟩
       case measure=>simp[intOf];have:=hlt.o;omega
    · have f0:=bi hR.o 0
      have f1:=bi hR.o 1;have f2:=bi hR.o 2;have f3:=bi hR.o 3;have f4:=bi hR.o 4;obtain⟨r0,r1,r2,r3,r4⟩:=bF hR.o;obtain⟨e0,e1,e2,e3,e4⟩:=bF hS.o;have hn2:=hid (dB hn.o (g:=w.heap.size) (Nat.le_refl _) a2 b2 c2 d2 o2);have hR2:=hid (fU hR.o a2 b2 c2 d2 o2);go_wp2;clear f0 f1 f2 f3 f4 r0 r1 r2 r3 r4 e0 e1 e2 e3 e4 c0 c1 c2' c3 c4;rw[← set5];generalize set5 wr w.heap.size a2 b2 c2 d2 o2=w2 at *;obtain⟨q0,q1,q2,q3,q4⟩:=bF hR2.o;refine bodyPost_ret (v:=Stp a2 b2 c2 d2 o2) (by simp[results,Tryz.results233,go_sem,Stp,q0,q1,q2,q3,q4]) rfl ⟨a2,b2,c2,d2,o2,rfl,hSu,hn2.o⟩
  · have f0:=bi hR.o 0
    have f1:=bi hR.o 1;have f2:=bi hR.o 2;have f3:=bi hR.o 3;have f4:=bi hR.o 4;obtain⟨r0,r1,r2,r3,r4⟩:=bF hR.o;obtain⟨e0,e1,e2,e3,e4⟩:=bF hS.o;have hn2:=hid (dB hn.o (g:=w.heap.size) (Nat.le_refl _) a2 b2 c2 d2 o2);have hR2:=hid (fU hR.o a2 b2 c2 d2 o2);go_wp2;clear f0 f1 f2 f3 f4 r0 r1 r2 r3 r4 e0 e1 e2 e3 e4 c0 c1 c2' c3 c4;rw[← set5];generalize set5 wr w.heap.size a2 b2 c2 d2 o2=w2 at *;obtain⟨q0,q1,q2,q3,q4⟩:=bF hR2.o;refine bodyPost_ret (v:=Stp a2 b2 c2 d2 o2) (by simp[results,Tryz.results233,go_sem,Stp,q0,q1,q2,q3,q4]) rfl ⟨a2,b2,c2,d2,o2,rfl,hSu,hn2.o⟩
