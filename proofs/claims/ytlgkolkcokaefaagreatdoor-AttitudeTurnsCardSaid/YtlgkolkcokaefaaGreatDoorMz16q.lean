/- texts -/
import Derived.Test.YtlgkolkcokaefaaGreatDoorMz15q
import Derived.Test.YtlgkolkcokaefaaGreatDoorMz12q
set_option maxRecDepth 100000
set_option maxHeartbeats 20000000
open Go.Lib (hid)
namespace Go.Proofs.YtlgkolkcokaefaaGreatDoor
open Go.RowKit Go.Gb
theorem wB {B:Nat}{w:World}{a:Option Addr}{n c:Nat}{xs:List Nat}(h:Own .u64 110 B w (.slice a n c) xs)(hp:0<n):∃ g,a=some ⟨g,0,none⟩∧n=xs.length∧B≤g∧g<w.heap.size:=by
 obtain⟨h1,h2⟩:=h;rcases h2 with⟨h2,_⟩|⟨g,cap,cur,hv,hg,hh,_⟩
 · injection h2 with e1 e2 e3;omega
 · injection hv with e1 e2 e3
   exact⟨g,e1,e2,hg,(Array.getElem?_eq_some_iff.1 hh).1⟩
theorem wC {B:Nat}{w:World}{g n c:Nat}{xs:List Nat}(h:Own .u64 110 B w (.slice (some ⟨g,0,none⟩) n c) xs)(hn:n=xs.length){i:Nat}(hi:i<n):w.cell? ⟨g,i,none⟩=some (.int .u64 ((xs.getD i 0:Nat):Int)):=by
 subst hn;have:=World.ownsRow.cellAt (w:=w) (size:=1) h i (by omega);rw[this];exact jo hi
theorem wm {B:Nat}{w:World}{g n c:Nat}{xs:List Nat}(h:Own .u64 110 B w (.slice (some ⟨g,0,none⟩) n c) xs)(hn:n=xs.length)(i:Nat):w.frozen? ⟨g,i,none⟩=false:=by
 subst hn;exact World.ownsRow.frozenAt (w:=w) (size:=1) h i
theorem rW {B:Nat}{w:World}{g n c:Nat}{xs:List Nat}(h:Own .u64 110 B w (.slice (some ⟨g,0,none⟩) n c) xs)(hn:n=xs.length)(i r:Nat):Own .u64 110 B (w.setCell ⟨g,i,none⟩ (.int .u64 (r:Int))) (.slice (some ⟨g,0,none⟩) n c) (xs.set i r):=by
 subst hn;have:=(World.ownsRow.stored (w:=w) (size:=1) h i (.int .u64 (r:Int))).1;unfold Own
 rw[qJ,List.length_set];exact this
theorem rX {B:Nat}{w:World}{v:Value}{xs:List Nat}(h:Own .u64 110 B w v xs){g:Nat}(hg:¬ At v g)(i:Nat)(u:Value):Own .u64 110 B (w.setCell ⟨g,i,none⟩ u) v xs :=
 h.kp (S:=fun k=>k=g) ((Kp.refl (fun k=>k=g) w).set (p:=⟨g,i,none⟩) (fun _=>rfl) u) (fun _ hk e=>hg (e▸hk))
theorem rC (w:World)(p:Addr)(u:Value):(w.setCell p u).heap.size=w.heap.size:=by simp[World.setCell]
theorem zn (ys r:List Nat)(x:Nat):(ys++(x :: r)).getD ys.length 0=x:=by simp[List.getD]
theorem zm (ys r:List Nat)(x v:Nat):(ys++(x :: r)).set ys.length v=(ys++[v])++r:=by simp
theorem wT {p q:Int}{X Y os:List Nat}{i:Nat}{k:Int}(h:lM p q X Y os i k)(hx:X.getD i 0<BB)(hy:Y.getD i 0<BB)(hp1 : -1000000000≤p)(hp2:p≤1000000000)(hq1 : -1000000000≤q)(hq2:q≤1000000000) :
 ∃ (r:Nat) (j:Int),lM p q X Y (os++[r]) (i+1) j∧r<1000000000 ∧ -3000000000≤j∧j≤3000000000 ∧
   ∀ W,Calls Tryz.prog 237 #[.int .i64 (p*(X.getD i 0:Int)+q*(Y.getD i 0:Int)+k)] W fun e w'=>e=.returned (.tuple #[.int .u64 (r:Int),.int .i64 j])∧W=w':=by
 obtain⟨b0,b1,hb⟩:=h.step hx hy hp1 hp2 hq1 hq2;refine⟨_,_,hb,by omega,hb.2.2.1,hb.2.2.2.1,fun W=>?_⟩;have hs:=yU _ b0 b1 W;rw[Int.toNat_of_nonneg (Int.emod_nonneg _ (by decide))];exact hs
theorem jq (B:Nat)(v1 v2:Value)(xs ys:List Nat)(a b c d:Int)(z1 z2:Nat)(w:World)
 (ha1 : -1000000000≤a) (ha2:a≤1000000000) (hb1 : -1000000000≤b) (hb2:b≤1000000000) (hc1 : -1000000000≤c) (hc2:c≤1000000000) (hd1 : -1000000000≤d) (hd2:d≤1000000000)
 (hx:∀ x∈xs,x<BB) (hy:∀ y∈ys,y<BB) (hlx:xs.length≤90000) (hly:ys.length≤90000)
 (e1:a*(aj xs:Int)+b*(aj ys:Int)=(z1:Int)) (e2:c*(aj xs:Int)+d*(aj ys:Int)=(z2:Int))
 (h1:Own .u64 110 B w v1 xs) (h2:Own .u64 110 B w v2 ys) (hs:Apt v1 v2) (hB:B≤w.heap.size) :
 Calls Tryz.prog 220 #[v1,v2,.int .i64 a,.int .i64 b,.int .i64 c,.int .i64 d] w fun e w'=>∃ u1 u2,e=.returned (.tuple #[u1,u2])∧Own .u64 110 B w' u1 (ae z1)∧Own .u64 110 B w' u2 (ae z2) ∧
  Apt u1 u2∧fD w v1 u1∧fD w v2 u2∧Kp (fun g=>At v1 g∨At v2 g) w w':=by
 obtain⟨n,hn⟩:∃ n,n=max xs.length ys.length:=⟨_,rfl⟩;have hmx:max (xs.length:Int) (ys.length:Int)=(n:Int):=by omega
 obtain⟨X,hX⟩:∃ X,X=xs++List.replicate (n-xs.length) 0:=⟨_,rfl⟩;obtain⟨Y,hY⟩:∃ Y,Y=ys++List.replicate (n-ys.length) 0:=⟨_,rfl⟩;have hXl:X.length=n:=by rw[hX,List.length_append,List.length_replicate];omega
 have hYl:Y.length=n:=by rw[hY,List.length_append,List.length_replicate];omega
 have hXB:∀ x∈X,x<BB:=by
  intro x hx';rw[hX]at hx';rcases List.mem_append.1 hx' with h|h
  · exact hx x h
  · rw[(List.mem_replicate.1 h).2];exact bI
 have hYB:∀ y∈Y,y<BB:=by
  intro y hy';rw[hY]at hy';rcases List.mem_append.1 hy' with h|h
  · exact hy y h
  · rw[(List.mem_replicate.1 h).2];exact bI
 have hXv:aj X=aj xs:=by rw[hX];exact ek xs _
 have hYv:aj Y=aj ys:=by rw[hY];exact ek ys _
 rw[← hXv,← hYv]at e1 e2
 have HP1:=hid (show ∀ W,Own .u64 110 B W v1 xs→B≤W.heap.size→Calls Tryz.prog 236 #[v1,.int .i64 (n:Int)] W fun e w'=>∃ u,e=.returned u∧Own .u64 110 B w' u X∧fD W v1 u∧Kp (At v1) W w' from
  fun W h hBW=>by rw[hX];exact zG B v1 xs n (by omega) (by omega) W h hBW)
 have HP2:=hid (show ∀ W,Own .u64 110 B W v2 ys→B≤W.heap.size→Calls Tryz.prog 236 #[v2,.int .i64 (n:Int)] W fun e w'=>∃ u,e=.returned u∧Own .u64 110 B w' u Y∧fD W v2 u∧Kp (At v2) W w' from
  fun W h hBW=>by rw[hY];exact zG B v2 ys n (by omega) (by omega) W h hBW)
 have hn9:n≤90000:=by omega
 obtain⟨a1,c1,rfl⟩:=aU h1.rd;obtain⟨a2,c2,rfl⟩:=aU h2.rd;obtain ⟨HXB,HYB,HXL,HYL,HE1,HE2,H1,H2,HS,HB⟩:=jk hXB hYB hXl hYl e1 e2 h1 h2 hs hB;clear hn hX hY hXl hYl hXB hYB hXv hYv e1 e2 h1 h2 hs hB hx hy;go_enter Tryz.func220,Tryz.ntmps220
 go_wp2_with fail
 refine(HP1.out _ H1.out HB.out).mono ?_;rintro e w1 ⟨u1,rfl,ho1,hno1,hk1⟩;have ho2:=H2.out.kp hk1 (fun g h h'=>HS.out g h' h);have hs1:Apt u1 (.slice a2 ys.length c2):=HS.out.newOr hno1 (fun g hg=>(H2.out.at hg).2);obtain ⟨HO1,HO2,HN1,HK1,HS1⟩:=aO ho1 ho2 hno1 hk1 hs1;clear ho1 ho2 hno1 hk1 hs1;go_wp2_with fail
 refine(HP2.out _ HO2.out (Nat.le_trans HB.out HK1.out.size)).mono ?_;rintro e w2 ⟨u2,rfl,ho2,hno2,hk2⟩;have ho1:=HO1.out.kp hk2 (fun g h h'=>HS1.out g h h');have hs2:Apt u1 u2:=(HS1.out.symm.newOr hno2 (fun g hg=>(HO1.out.at hg).2)).symm;have HN2:=hid (show fD w (.slice a2 ys.length c2) u2 from(fD.refl w _).trans hno2 HK1.out.size);have HK2:=hid (show Kp (fun g=>At (.slice a1 xs.length c1) g∨At (.slice a2 ys.length c2) g) w w2 from(HK1.out.mono (fun _ h=>Or.inl h)).trans hk2 (fun _ _ h=>Or.inr h));obtain⟨b1,k1,rfl⟩:=aU ho1.rd;obtain⟨b2,k2,rfl⟩:=aU ho2.rd;rw[HXL.out]at ho1 hs2 HN1;rw[HYL.out]at ho2 hs2 HN2;rw[HXL.out,HYL.out];obtain ⟨HO1,HO2,HS2⟩:=ah ho1 ho2 hs2;clear ho1 ho2 hno2 hk2 hs2 HP1 HP2 HS1 HK1;go_wp2
 go_loopw [15,16,17,18,19,20,34] (fun f1 f2 _ _ _ _ ii wr=>∃ (i:Nat) (j1 j2:Int) (o1 o2:List Nat),i≤n∧ii=.int .i64 (i:Int)∧f1=.int .i64 j1∧f2=.int .i64 j2∧Hid (lM a b X Y o1 i j1)∧Hid (lM c d X Y o2 i j2) ∧
  Hid (Own .u64 110 B wr (.slice b1 n k1) (o1++X.drop i))∧Hid (Own .u64 110 B wr (.slice b2 n k2) (o2++Y.drop i))∧Hid (Kp (fun g=>At (.slice a1 xs.length c1) g∨At (.slice a2 ys.length c2) g) w wr)∧Hid (w2.heap.size=wr.heap.size)) (fun _ _ _ _ _ _ ii _=>n-(intOf ii).toNat)
 case atStart=>exact⟨0,0,0,[],[],Nat.zero_le _,rfl,rfl,rfl,lM.start _ _ _ _,lM.start _ _ _ _,by rw[List.drop_zero];exact HO1.out,by rw[List.drop_zero];exact HO2.out,HK2.out,rfl⟩
 case round =>
  obtain⟨i,j1,j2,o1,o2,hi,rfl,rfl,rfl,hi1,hi2,hO1,hO2,hK,hZ⟩:=hrel;clear HO1 HO2 HK2;by_cases hlt:i<n
  · obtain⟨g1,rfl,hl1,hg1B,hg1⟩:=wB hO1.out (by omega)
    obtain⟨g2,rfl,hl2,hg2B,hg2⟩:=wB hO2.out (by omega);have hne:g1≠g2:=fun e=>HS2.out g1 (eZ.2 rfl) (eZ.2 e.symm);have hne':¬ g2=g1:=fun e=>hne e.symm;have ol1:=hi1.out.1;have ol2:=hi2.out.1;have x9:=getD_lt HXB.out i;have y9:=getD_lt HYB.out i;obtain⟨r1,m1,hn1,hr1,ml1,mu1,hs1⟩:=wT hi1.out x9 y9 ha1 ha2 hb1 hb2;obtain⟨r2,m2,hn2,hr2,ml2,mu2,hs2⟩:=wT hi2.out x9 y9 hc1 hc2 hd1 hd2;have q1:=Go.Gb.prod_bound ha1 ha2 x9;have q2:=Go.Gb.prod_bound hb1 hb2 y9;have q3:=Go.Gb.prod_bound hc1 hc2 x9;have q4:=Go.Gb.prod_bound hd1 hd2 y9;have jl1:=hi1.out.2.2.1;have ju1:=hi1.out.2.2.2.1;have jl2:=hi2.out.2.2.1;have ju2:=hi2.out.2.2.2.1;have dx:X.drop i=X.getD i 0 :: X.drop (i+1):=eD (by rw[HXL.out];exact hlt);have dy:Y.drop i=Y.getD i 0 :: Y.drop (i+1):=eD (by rw[HYL.out];exact hlt);have P1:=hO1.out;have P2:=hO2.out;rw[dx]at P1 hl1;rw[dy]at P2 hl2;have cx:=wC P1 hl1 (i:=i) hlt;have cy:=wC P2 hl2 (i:=i) hlt;have fx:=wm P1 hl1 i;have fy:=wm P2 hl2 i;have gx:=zn o1 (X.drop (i+1)) (X.getD i 0);have gy:=zn o2 (Y.drop (i+1)) (Y.getD i 0);rw[ol1]at gx;rw[ol2]at gy;rw[gx]at cx;rw[gy]at cy;have w1':=rW P1 hl1 i r1;have sx:=zm o1 (X.drop (i+1)) (X.getD i 0) r1;have sy:=zm o2 (Y.drop (i+1)) (Y.getD i 0) r2;rw[ol1]at sx;rw[ol2]at sy;rw[sx]at w1';have nA2:¬ At (.slice (some ⟨g2,0,none⟩) n k2) g1:=fun h=>hne' (eZ.1 h);have nA1:¬ At (.slice (some ⟨g1,0,none⟩) n k1) g2:=fun h=>hne (eZ.1 h);have w2':=rW (rX P2 nA2 i (.int .u64 (r1:Int))) hl2 i r2;rw[sy]at w2';obtain ⟨HW1,HW2⟩:=aD (rX w1' nA1 i (.int .u64 (r2:Int))) w2'
    have kk:Kp (fun g=>At (.slice a1 xs.length c1) g∨At (.slice a2 ys.length c2) g) w ((wr.setCell ⟨g1,i,none⟩ (.int .u64 (r1:Int))).setCell ⟨g2,i,none⟩ (.int .u64 (r2:Int))):=by
        refine(hK.out.set (p:=⟨g1,i,none⟩) (fun hlt=>?_) _).set (p:=⟨g2,i,none⟩) (fun hlt=>?_) _
        · rcases HN1.out g1 (eZ.2 rfl) with h|h
          · exact Or.inl h
          · exact absurd hlt (by show ¬ g1<_;omega)
        · rcases HN2.out g2 (eZ.2 rfl) with h|h
          · exact Or.inr h
          · exact absurd hlt (by show ¬ g2<_;omega)
    obtain ⟨HKK,HN1',HN2',HS1,HSS2⟩:=aO kk hn1 hn2 hs1 hs2;clear P1 P2 w1' w2' sx sy gx gy dx dy kk hn1 hn2 hs1 hs2 ol1 ol2 hl1 hl2 hO1 hO2 hi1 hi2 hK nA1 nA2;rw[aJ]at x9 y9;generalize X.getD i 0=x at *;generalize Y.getD i 0=y at *;obtain⟨pa,hpa⟩:∃ t,t=a*(x:Int):=⟨_,rfl⟩;obtain⟨pb,hpb⟩:∃ t,t=b*(y:Int):=⟨_,rfl⟩;obtain⟨pc,hpc⟩:∃ t,t=c*(x:Int):=⟨_,rfl⟩;obtain⟨pd,hpd⟩:∃ t,t=d*(y:Int):=⟨_,rfl⟩;rw[← hpa,← hpb]at HS1;rw[← hpc,← hpd]at HSS2;rw[← hpa]at q1;rw[← hpb]at q2;rw[← hpc]at q3;rw[← hpd]at q4;have ea:=hpa.symm;have eb:=hpb.symm;have ec:=hpc.symm;have ed:=hpd.symm;obtain⟨q1l,q1u⟩:=q1;obtain⟨q2l,q2u⟩:=q2;obtain⟨q3l,q3u⟩:=q3;obtain⟨q4l,q4u⟩:=q4;have v1:IntKind.i64.wrap pa=pa:=IntWalk.i64_in _ (by omega);have v2:IntKind.i64.wrap pb=pb:=IntWalk.i64_in _ (by omega);have v3:IntKind.i64.wrap pc=pc:=IntWalk.i64_in _ (by omega);have v4:IntKind.i64.wrap pd=pd:=IntWalk.i64_in _ (by omega);have v5:IntKind.i64.wrap (pa+pb)=pa+pb:=IntWalk.i64_in _ (by omega);have v6:IntKind.i64.wrap (pa+pb+j1)=pa+pb+j1:=IntWalk.i64_in _ (by omega);have v7:IntKind.i64.wrap (pc+pd)=pc+pd:=IntWalk.i64_in _ (by omega);have v8:IntKind.i64.wrap (pc+pd+j2)=pc+pd+j2:=IntWalk.i64_in _ (by omega);clear hpa hpb hpc hpd;go_wp2_with fail
    refine(HS1.out _).mono ?_;rintro e w' ⟨rfl,rfl⟩;go_wp2_with fail
    refine(HSS2.out _).mono ?_;rintro e w' ⟨rfl,rfl⟩;clear v1 v2 v3 v4 v5 v6 v7 v8 ea eb ec ed;go_wp2;go_roundw
    case rel=>exact⟨i+1,m1,m2,o1++[r1],o2++[r2],by omega,by go_num,rfl,rfl,HN1',HN2',HW1,HW2,HKK,by show w2.heap.size=_;rw[rC,rC];exact hZ.out⟩
    case measure=>simp[intOf];omega
  · obtain rfl:i=n:=by omega
    obtain⟨z1n,hw1,hlt1⟩:=hi1.out.done (by rw[HXL.out];exact Nat.le_refl _) (by rw[HYL.out];exact Nat.le_refl _) HE1.out;obtain⟨z2n,hw2,hlt2⟩:=hi2.out.done (by rw[HXL.out];exact Nat.le_refl _) (by rw[HYL.out];exact Nat.le_refl _) HE2.out;have ju1:=hi1.out.2.2.2.1;have ju2:=hi2.out.2.2.2.1;have ol1:=hi1.out.1;have ol2:=hi2.out.1;obtain⟨m1,rfl⟩:=Int.eq_ofNat_of_zero_le z1n;obtain⟨m2,rfl⟩:=Int.eq_ofNat_of_zero_le z2n;rw[Int.toNat_natCast]at hw1 hlt1 hw2 hlt2;have P1:=hO1.out;have P2:=hO2.out;rw[List.drop_of_length_le (by rw[HXL.out];exact Nat.le_refl _),List.append_nil]at P1;rw[List.drop_of_length_le (by rw[HYL.out];exact Nat.le_refl _),List.append_nil]at P2;have hBw:B≤wr.heap.size:=Nat.le_trans HB.out hK.out.size;have A1:=hid (jv B _ o1 m1 (by omega) (by omega) wr P1 hBw);obtain ⟨HP2,HP1,L1,L2,W1,W2⟩:=bF P2 P1 hlt1 hlt2 hw1 hw2;have hm2:m2≤3000000000:=by omega
    have ho2l:o2.length≤100000:=by omega
    have HBW:=hid hBw;clear P1 P2 hlt1 hlt2 hw1 hw2 z1n z2n ju1 ju2 ol1 ol2 hBw hO1 hO2 hi1 hi2;go_wp2_with fail
    refine A1.out.mono ?_;rintro e w3 ⟨u3,rfl,ho3,hno3,hk3⟩;have T1:=hid (z0M B u3 _ L1.out w3 ho3);rw[W1.out]at T1;have P2':=HP2.out.kp hk3 (fun g h h'=>HS2.out g h' h);have hs3:Apt u3 (.slice b2 i k2):=HS2.out.newOr hno3 (fun g hg=>(HP2.out.at hg).2);have A2:=hid (jv B _ o2 m2 hm2 ho2l w3 P2' (Nat.le_trans HBW.out hk3.size));obtain ⟨HNO3,HK3,HS3,HO3,HPP2⟩:=aO hno3 hk3 hs3 ho3 P2';clear ho3 hno3 hk3 hs3 P2';go_wp2_with fail
    refine T1.out.mono ?_;rintro e w' ⟨t1,rfl,hot1,hat1,rfl⟩;obtain ⟨HT1,HA1⟩:=aD hot1 hat1;clear hot1 hat1;go_wp2_with fail
    refine A2.out.mono ?_;rintro e w4 ⟨u4,rfl,ho4,hno4,hk4⟩;have T2:=hid (z0M B u4 _ L2.out w4 ho4);rw[W2.out]at T2;obtain ⟨HNO4,HK4⟩:=aD hno4 hk4;clear ho4 hno4 hk4;go_wp2_with fail
    refine T2.out.mono ?_;rintro e w' ⟨t2,rfl,hot2,hat2,rfl⟩;obtain ⟨HT2,HA2⟩:=aD hot2 hat2;clear hot2 hat2;go_wp2;go_ret2
    have zz:=hZ.out;have z3:=HK3.out.size;have zw:=hK.out.size;have zz2:w.heap.size≤w2.heap.size:=by omega
    refine⟨t1,t2,rfl,HT1.out.kp HK4.out (fun g h h'=>HS3.out g (HA1.out g h) h'),HT2.out,?_,?_,?_,?_⟩
    · intro g h h'
      exact(HS3.out.symm.newOr HNO4.out (fun g hg=>(HO3.out.at hg).2)) g (HA2.out g h') (HA1.out g h)
    · intro g h
      rcases HNO3.out g (HA1.out g h) with h'|h'
      · exact HN1.out g h'
      · right;omega
    · intro g h
      rcases HNO4.out g (HA2.out g h) with h'|h'
      · exact HN2.out g h'
      · right;omega
    · refine(hK.out.trans (HK3.out) (fun g hg h=>?_)).trans HK4.out (fun g hg h=>?_)
      · rcases HN1.out g h with h'|h'
        · exact Or.inl h'
        · omega
      · rcases HN2.out g h with h'|h'
        · exact Or.inr h'
        · omega
open Go.Lib (hid)
def Eb (w:World) (g:Nat) (vf vs vp vq:Value) (n:Bool):Prop:=w.heap[g]? = some (.cells #[vf,vs,vp,vq,.bool n] 199 (0,0))
theorem Eb.lt {w:World}{g:Nat}{vf vs vp vq:Value}{n:Bool}(h:Eb w g vf vs vp vq n):g<w.heap.size:=(Array.getElem?_eq_some_iff.1 h).1
theorem Eb.cells {w:World}{g:Nat}{vf vs vp vq:Value}{n:Bool}(h:Eb w g vf vs vp vq n):w.cell? ⟨g,0,none⟩=some vf∧w.cell? ⟨g,1,none⟩=some vs∧w.cell? ⟨g,2,none⟩=some vp∧w.cell? ⟨g,3,none⟩=some vq∧w.cell? ⟨g,4,none⟩=some (.bool n):=by
 unfold Eb at h
 refine⟨?_,?_,?_,?_,?_⟩<;>simp[World.cell?,h]
theorem Eb.free {w:World}{g:Nat}{vf vs vp vq:Value}{n:Bool}(h:Eb w g vf vs vp vq n)(i:Nat):w.frozen? ⟨g,i,none⟩=false:=by
 unfold Eb at h
 simp only[World.frozen?,h];simp
theorem Eb.kp {w w':World}{g:Nat}{vf vs vp vq:Value}{n:Bool}(h:Eb w g vf vs vp vq n){S:Nat→Prop}(hk:Kp S w w')(hn:¬ S g):Eb w' g vf vs vp vq n:=by
 unfold Eb at *
 rw[hk.block g (Array.getElem?_eq_some_iff.1 h).1 hn];exact h
theorem Eb.below {w w':World}{g:Nat}{vf vs vp vq:Value}{n:Bool}(h:Eb w g vf vs vp vq n)(hb:Below w.heap.size w w'):Eb w' g vf vs vp vq n:=h.kp (S:=fun _=>False) (Kp.of_below hb) (fun h=>h)
theorem Eb.set01 {w:World}{g:Nat}{vf vs vp vq:Value}{n:Bool}(h:Eb w g vf vs vp vq n)(a b:Value):Eb ((w.setCell ⟨g,0,none⟩ a).setCell ⟨g,1,none⟩ b) g a b vp vq n:=by
 unfold Eb at *
 simp only[World.setCell,Array.getElem?_modify,h];simp
theorem Eb.set23 {w:World}{g:Nat}{vf vs vp vq:Value}{n:Bool}(h:Eb w g vf vs vp vq n)(a b:Value):Eb ((w.setCell ⟨g,2,none⟩ a).setCell ⟨g,3,none⟩ b) g vf vs a b n:=by
 unfold Eb at *
 simp only[World.setCell,Array.getElem?_modify,h];simp
theorem Eb.set4 {w:World}{g:Nat}{vf vs vp vq:Value}{n:Bool}(h:Eb w g vf vs vp vq n)(m:Bool):Eb (w.setCell ⟨g,4,none⟩ (.bool m)) g vf vs vp vq m:=by
 unfold Eb at *
 simp only[World.setCell,Array.getElem?_modify,h];simp
theorem Eb.apart {w:World}{g B:Nat}{vf vs vp vq v:Value}{n:Bool}{xs:List Nat}(h:Eb w g vf vs vp vq n)(ho:Own .u64 110 B w v xs):¬ At v g:=by
 intro hg;obtain⟨_,h2⟩:=ho;rcases h2 with⟨rfl,_⟩|⟨k,cap,cur,rfl,_,hh,_⟩
 · exact at_nil _ _ _ hg
 · rw[eZ]at hg
   subst hg;unfold Eb at h
   rw[h]at hh;injection hh with hh
   injection hh with e1 e2 e3
   exact absurd e2 (by decide)
structure St4 (B:Nat) (w:World) (vf vs vp vq:Value) (F S P Q:Nat):Prop where
 f:Own .u64 110 B w vf (ae F)
 s:Own .u64 110 B w vs (ae S)
 p:Own .u64 110 B w vp (ae P)
 q:Own .u64 110 B w vq (ae Q)
 fs:Apt vf vs
 fp:Apt vf vp
 fq:Apt vf vq
 sp:Apt vs vp
 sq:Apt vs vq
 pq:Apt vp vq
theorem St4.below {B:Nat}{w w':World}{vf vs vp vq:Value}{F S P Q:Nat}(h:St4 B w vf vs vp vq F S P Q)(hb:Below w.heap.size w w'):St4 B w' vf vs vp vq F S P Q :=
 ⟨h.f.below hb,h.s.below hb,h.p.below hb,h.q.below hb,h.fs,h.fp,h.fq,h.sp,h.sq,h.pq⟩
theorem St4.kp {B:Nat}{w w':World}{vf vs vp vq:Value}{F S P Q:Nat}(h:St4 B w vf vs vp vq F S P Q){Z:Nat→Prop}(hk:Kp Z w w')(hn:∀ g,(At vf g∨At vs g∨At vp g∨At vq g)→¬ Z g):St4 B w' vf vs vp vq F S P Q :=
 ⟨h.f.kp hk (fun g hg=>hn g (Or.inl hg)),h.s.kp hk (fun g hg=>hn g (Or.inr (Or.inl hg))),h.p.kp hk (fun g hg=>hn g (Or.inr (Or.inr (Or.inl hg)))),h.q.kp hk (fun g hg=>hn g (Or.inr (Or.inr (Or.inr hg)))),h.fs,h.fp,h.fq,h.sp,h.sq,h.pq⟩
theorem gH {w:World}(g i:Nat)(u:Value):Kp (fun k=>k=g) w (w.setCell ⟨g,i,none⟩ u):=(Kp.refl (fun k=>k=g) w).set (p:=⟨g,i,none⟩) (fun _=>rfl) u
def EuSt (B:Nat) (w:World) (g F S P Q:Nat) (n:Bool):Prop:=∃ vf vs vp vq,Eb w g vf vs vp vq n∧B≤g∧St4 B w vf vs vp vq F S P Q
theorem eP {k:IntKind}{T:TypeId}{w0 w:World}{v:Value}{xs:List Nat}(h:Own k T w0.heap.size w v xs)(u:Value)(hu:∀ g,At u g→g<w0.heap.size):Apt v u:=Apt.fresh h.fresh hu
theorem z0s (B g F S P Q:Nat)(n:Bool)(hS0:S≠0)(hlF:(ae F).length≤80000)(hlP:(ae P).length≤80000)(hlQ:(ae Q).length≤80000)(hlN:(ae (P+F / S*Q)).length≤80000)(w:World)(h:EuSt B w g F S P Q n)(hB:B≤w.heap.size) :
 Calls Tryz.prog 193 #[.pointer (some ⟨g,0,none⟩)] w fun e w'=>e=.returned (.tuple #[])∧Hid (EuSt B w' g S (F%S) Q (P+F / S*Q) (!n))∧Below B w w':=by
 obtain⟨vf,vs,vp,vq,hE,hBg,h4⟩:=h;obtain⟨as_,cs_,rfl⟩:=aU h4.s.rd;obtain⟨aq,cq,rfl⟩:=aU h4.q.rd;have HDv:=hid (p8 vf (.slice as_ (ae S).length cs_) F S hS0 (by omega) w.drew h4.f.rd h4.s.rd);obtain⟨D,hD⟩:∃ D,D=F / S:=⟨_,rfl⟩;obtain⟨R,hR⟩:∃ R,R=F%S:=⟨_,rfl⟩;rw[← hD,← hR]at HDv;rw[← hD]at hlN;rw[← hD,← hR]
 have hlD:(ae D).length≤80000:=by
  rw[hD];exact Nat.le_trans (aN (Nat.div_le_self F S)) hlF
 have hlX:(ae (D*Q)).length≤80000:=Nat.le_trans (aN (Nat.le_add_left _ _)) hlN;obtain ⟨HE,H4,HB,HBg⟩:=aG hE h4 hB hBg;obtain⟨c0,c1,c2,c3,c4⟩:=hE.cells;clear hD hR hE h4 hB hBg hS0 hlF;go_enter Tryz.func193,Tryz.ntmps193
 go_upto_region 0 with fail
 go_cut [2,3] (fun v2 v3 wx=>∃ qv rv:Value,v2=qv∧v3=rv∧Hid (Own .u64 110 w.heap.size wx qv (ae D))∧Hid (Own .u64 110 w.heap.size wx rv (ae R))∧Hid (Below w.heap.size w wx))
 case first =>
  go_region_with (go_at_call 218;go_must (refine HDv.out.mono ?_;rintro e w1 ⟨qv,rv,rfl,hq,hr,hb1⟩))
  all_goals
   have HQ:=hid (show Own .u64 110 w.heap.size w1 qv (ae D) from hq);have HR:=hid (show Own .u64 110 w.heap.size w1 rv (ae R) from hr);have HB1:=hid (show Below w.heap.size w w1 from(Below.refl _ w).drew.trans hb1);clear hq hr hb1;go_wp2_with fail
   go_meet
   exact⟨qv,rv,rfl,rfl,HQ,HR,HB1⟩
 case rest =>
  obtain⟨_,_,rfl,rfl,hq,hr,hb⟩:=hcut;obtain⟨ar,cr,rfl⟩:=aU hr.out.rd;clear c0 c1 c2 c3 c4;have hE1:=HE.out.below hb.out;obtain⟨c0,c1,c2,c3,c4⟩:=hE1.cells;have f0:=hE1.free 0;have f1:=hE1.free 1;have HE2:=hid (hE1.set01 (.slice as_ (ae S).length cs_) (.slice ar (ae R).length cr));have K2:=hid (show Kp (fun k=>k=g) wc ((wc.setCell ⟨g,0,none⟩ (.slice as_ (ae S).length cs_)).setCell ⟨g,1,none⟩ (.slice ar (ae R).length cr)) from(gH g 0 (.slice as_ (ae S).length cs_)).trans (gH g 1 (.slice ar (ae R).length cr)) (fun _ _ h=>h));have HE1:=hid hE1;clear hE1;go_upto_region 2 with fail
  clear c0 c1 c2 c3 c4 f0 f1;generalize (wc.setCell ⟨g,0,none⟩ (.slice as_ (ae S).length cs_)).setCell ⟨g,1,none⟩ (.slice ar (ae R).length cr)=w2 at *;have L:=H4.out;have hBw:=HB.out;have hBg:=HBg.out;have Lc:=L.below hb.out;have R1:=hr.out.mono hBw;have D1:=hq.out.mono hBw;have nvs:¬ At (.slice as_ (ae S).length cs_) g:=HE.out.apart L.s;have nvp:¬ At vp g:=HE.out.apart L.p;have nvq:¬ At (.slice aq (ae Q).length cq) g:=HE.out.apart L.q;have nu3:¬ At (.slice ar (ae R).length cr) g:=HE1.out.apart R1;have nu2:¬ At u2 g:=HE1.out.apart D1;have S2:=Lc.s.kp K2.out (fun k hk e=>nvs (e▸hk));have P2:=Lc.p.kp K2.out (fun k hk e=>nvp (e▸hk));have Q2:=Lc.q.kp K2.out (fun k hk e=>nvq (e▸hk));have R2:=R1.kp K2.out (fun k hk e=>nu3 (e▸hk));have D2:=D1.kp K2.out (fun k hk e=>nu2 (e▸hk));have A1:Apt (.slice ar (ae R).length cr) (.slice as_ (ae S).length cs_):=eP hr.out (.slice as_ (ae S).length cs_) (fun k hk=>(L.s.at hk).2);have A2:Apt (.slice ar (ae R).length cr) vp:=eP hr.out vp (fun k hk=>(L.p.at hk).2);have A3:Apt (.slice ar (ae R).length cr) (.slice aq (ae Q).length cq):=eP hr.out (.slice aq (ae Q).length cq) (fun k hk=>(L.q.at hk).2);have b1:B≤wc.heap.size:=Nat.le_trans hBw hb.out.size;have b2:B≤w2.heap.size:=Nat.le_trans b1 K2.out.size;have HM:=hid (ic u2 (.slice aq (ae Q).length cq) D Q (by omega) (by omega) w2 D2.rd Q2.rd);have HBl2:=hid (show Below B w w2 from(hb.out.mono hBw).trans (K2.out.below b1 (fun k e=>e▸hBg)));obtain ⟨HS2,HP2,HQ2,HR2,HA1,HA2,HA3,HL,Hb2⟩:=dL S2 P2 Q2 R2 A1 A2 A3 L b2;clear Lc L R1 D1 nvs nvp nvq nu3 nu2 S2 P2 Q2 R2 D2 A1 A2 A3 b1 b2 hBw hBg;obtain⟨c0,c1,c2,c3,c4⟩:=HE2.out.cells;go_wp2_with fail
  refine HM.out.mono ?_;rintro e w3 ⟨pv,rfl,hpv,hb3⟩;clear c0 c1 c2 c3 c4;have E3:=HE2.out.below hb3;have S3:=HS2.out.below hb3;have P3:=HP2.out.below hb3;have Q3:=HQ2.out.below hb3;have R3:=HR2.out.below hb3;have X3:=hpv.mono Hb2.out;have A4:Apt pv vp:=eP hpv vp (fun k hk=>(HP2.out.at hk).2);have A5:Apt pv (.slice as_ (ae S).length cs_):=eP hpv (.slice as_ (ae S).length cs_) (fun k hk=>(HS2.out.at hk).2);have A6:Apt pv (.slice aq (ae Q).length cq):=eP hpv (.slice aq (ae Q).length cq) (fun k hk=>(HQ2.out.at hk).2);have A7:Apt pv (.slice ar (ae R).length cr):=eP hpv (.slice ar (ae R).length cr) (fun k hk=>(HR2.out.at hk).2);have b3:B≤w3.heap.size:=Nat.le_trans Hb2.out hb3.size
  have HBL:=hid (jq B vp pv (ae P) (ae (D*Q)) 1 1 0 0 (P+D*Q) 0 w3 (by decide) (by decide) (by decide) (by decide) (by decide) (by decide) (by decide) (by decide)
   (aQ _) (aQ _) (by omega) (by omega) (by rw[aB,aB,Int.one_mul,Int.one_mul,Int.natCast_add]) (by rw[Int.zero_mul,Int.zero_mul];rfl) P3 X3 A4.symm b3)
  have HBl3:=hid (show Below B w w3 from HBl2.out.trans (hb3.mono Hb2.out));obtain⟨c0,c1,c2,c3,c4⟩:=E3.cells;obtain ⟨HE3,HS3,HP3,HQ3,HR3,HX3,HA4,HA5,HA6,HA7,Hb3⟩:=gI E3 S3 P3 Q3 R3 X3 A4 A5 A6 A7 b3;clear E3 S3 P3 Q3 R3 X3 A4 A5 A6 A7 b3 hpv hb3;go_wp2_with fail
  refine HBL.out.mono ?_;rintro e w4 ⟨n1,n2,rfl,h41,_,_,hno1,_,hk4⟩;obtain⟨an,cn,rfl⟩:=aU h41.rd;clear c0 c1 c2 c3 c4;have L:=HL.out;have hBg:=HBg.out;have E4:=HE3.out.kp hk4 (fun h=>h.elim (HE3.out.apart HP3.out) (HE3.out.apart HX3.out));have S4:=HS3.out.kp hk4 (fun k hk h=>h.elim (fun h=>L.sp k hk h) (fun h=>HA5.out k h hk));have Q4:=HQ3.out.kp hk4 (fun k hk h=>h.elim (fun h=>L.pq k h hk) (fun h=>HA6.out k h hk));have R4:=HR3.out.kp hk4 (fun k hk h=>h.elim (fun h=>HA2.out k hk h) (fun h=>HA7.out k h hk));have T1:Apt (.slice an (ae (P+D*Q)).length cn) (.slice as_ (ae S).length cs_):=L.sp.symm.newOr hno1 (fun k hk=>(HS3.out.at hk).2);have T2:Apt (.slice an (ae (P+D*Q)).length cn) (.slice aq (ae Q).length cq):=L.pq.newOr hno1 (fun k hk=>(HQ3.out.at hk).2);have T3:Apt (.slice an (ae (P+D*Q)).length cn) (.slice ar (ae R).length cr):=HA2.out.symm.newOr hno1 (fun k hk=>(HR3.out.at hk).2);have HBl4:=hid (show Below B w w4 from HBl3.out.trans (hk4.below Hb3.out (fun k h=>h.elim (fun h=>(HP3.out.at h).1) (fun h=>(HX3.out.at h).1))));have b4:B≤w4.heap.size:=Nat.le_trans Hb3.out hk4.size;obtain⟨c0,c1,c2,c3,c4⟩:=E4.cells;have f2:=E4.free 2;have f3:=E4.free 3;have HE5:=hid (E4.set23 (.slice aq (ae Q).length cq) (.slice an (ae (P+D*Q)).length cn));have K5:=hid (show Kp (fun k=>k=g) w4 ((w4.setCell ⟨g,2,none⟩ (.slice aq (ae Q).length cq)).setCell ⟨g,3,none⟩ (.slice an (ae (P+D*Q)).length cn)) from(gH g 2 (.slice aq (ae Q).length cq)).trans (gH g 3 (.slice an (ae (P+D*Q)).length cn)) (fun _ _ h=>h));obtain ⟨HE4,HS4,HQ4,HR4,HN4,HT1,HT2,HT3,Hb4⟩:=dL E4 S4 Q4 R4 h41 T1 T2 T3 b4;clear L hBg E4 S4 Q4 R4 T1 T2 T3 b4 h41 hno1 hk4;go_upto_region 5 with fail
  clear c0 c1 c2 c3 c4 f2 f3;generalize (w4.setCell ⟨g,2,none⟩ (.slice aq (ae Q).length cq)).setCell ⟨g,3,none⟩ (.slice an (ae (P+D*Q)).length cn)=w5 at *;obtain⟨c0,c1,c2,c3,c4⟩:=HE5.out.cells;have f4:=HE5.out.free 4;go_wp2;go_end0
  have L:=HL.out;have K6:Kp (fun k=>k=g) w4 (w5.setCell ⟨g,4,none⟩ (.bool (!n))):=K5.out.trans (gH g 4 (.bool (!n))) (fun _ _ h=>h);refine⟨rfl,⟨(.slice as_ (ae S).length cs_),(.slice ar (ae R).length cr),(.slice aq (ae Q).length cq),(.slice an (ae (P+D*Q)).length cn),HE5.out.set4 (!n),HBg.out,?_⟩,HBl4.out.trans (K6.below Hb4.out (fun k e=>e▸HBg.out))⟩
  exact⟨HS4.out.kp K6 (fun k hk e=>HE4.out.apart HS4.out (e▸hk)),HR4.out.kp K6 (fun k hk e=>HE4.out.apart HR4.out (e▸hk)),HQ4.out.kp K6 (fun k hk e=>HE4.out.apart HQ4.out (e▸hk)),HN4.out.kp K6 (fun k hk e=>HE4.out.apart HN4.out (e▸hk)),
   HA1.out.symm,L.sq,HT1.out.symm,HA3.out,HT3.out.symm,HT2.out.symm⟩
end Go.Proofs.YtlgkolkcokaefaaGreatDoor
