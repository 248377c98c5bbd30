/- texts -/
import Derived.Test.YtodcdibanokjjaaGreatDoorMz10q
open Go.Proofs.Tryz
set_option maxRecDepth 100000
set_option maxHeartbeats 20000000
open Go.Lib (hid)
namespace Go.Proofs.YtodcdibanokjjaaGreatDoor
open Go.RowKit Go.Gb
theorem wh {B:Nat}{w:World}{a:Option Addr}{n c:Nat}{xs:List Nat}(h:Gb.Own .u64 120 B w (.slice a n c) xs)(hp:0<n):∃ g,a=some ⟨g,0,none⟩∧n=xs.length∧B≤g∧g<w.heap.size:=by
 obtain⟨h1,h2⟩:=h;rcases h2 with⟨h2,_⟩|⟨g,cap,cur,hv,hg,hh,_⟩
 · injection h2 with e1 e2 e3;omega
 · injection hv with e1 e2 e3
   exact⟨g,e1,e2,hg,(Array.getElem?_eq_some_iff.1 hh).1⟩
theorem wy {B:Nat}{w:World}{g n c:Nat}{xs:List Nat}(h:Gb.Own .u64 120 B w (.slice (some ⟨g,0,none⟩) n c) xs)(hn:n=xs.length){i:Nat}(hi:i<n):w.cell? ⟨g,i,none⟩=some (.int .u64 ((xs.getD i 0:Nat):Int)):=by
 subst hn;have:=World.ownsRow.cellAt (w:=w) (size:=1) h i (by omega);rw[this];exact jg hi
theorem vZ {B:Nat}{w:World}{g n c:Nat}{xs:List Nat}(h:Gb.Own .u64 120 B w (.slice (some ⟨g,0,none⟩) n c) xs)(hn:n=xs.length)(i:Nat):w.frozen? ⟨g,i,none⟩=false:=by
 subst hn;exact World.ownsRow.frozenAt (w:=w) (size:=1) h i
theorem rJ {B:Nat}{w:World}{g n c:Nat}{xs:List Nat}(h:Gb.Own .u64 120 B w (.slice (some ⟨g,0,none⟩) n c) xs)(hn:n=xs.length)(i r:Nat):Gb.Own .u64 120 B (w.setCell ⟨g,i,none⟩ (.int .u64 (r:Int))) (.slice (some ⟨g,0,none⟩) n c) (xs.set i r):=by
 subst hn;have:=(World.ownsRow.stored (w:=w) (size:=1) h i (.int .u64 (r:Int))).1;unfold Gb.Own
 rw[qF,List.length_set];exact this
theorem rO {B:Nat}{w:World}{v:Value}{xs:List Nat}(h:Gb.Own .u64 120 B w v xs){g:Nat}(hg:¬ At v g)(i:Nat)(u:Value):Gb.Own .u64 120 B (w.setCell ⟨g,i,none⟩ u) v xs :=
 h.kp (S:=fun k=>k=g) ((Kp.refl (fun k=>k=g) w).set (p:=⟨g,i,none⟩) (fun _=>rfl) u) (fun _ hk e=>hg (e▸hk))
theorem rq (w:World)(p:Addr)(u:Value):(w.setCell p u).heap.size=w.heap.size:=by simp[World.setCell]
theorem zK (ys r:List Nat)(x:Nat):(ys++(x :: r)).getD ys.length 0=x:=by simp[List.getD]
theorem zJ (ys r:List Nat)(x v:Nat):(ys++(x :: r)).set ys.length v=(ys++[v])++r:=by simp
theorem wT {p q:Int}{X Y os:List Nat}{i:Nat}{k:Int}(h:lT p q X Y os i k)(hx:X.getD i 0<BB)(hy:Y.getD i 0<BB)(hp1 : -1000000000≤p)(hp2:p≤1000000000)(hq1 : -1000000000≤q)(hq2:q≤1000000000) :
 ∃ (r:Nat) (j:Int),lT p q X Y (os++[r]) (i+1) j∧r<1000000000 ∧ -3000000000≤j∧j≤3000000000 ∧
   ∀ W,Calls Tryz.prog 242 #[.int .i64 (p*(X.getD i 0:Int)+q*(Y.getD i 0:Int)+k)] W fun e w'=>e=.returned (.tuple #[.int .u64 (r:Int),.int .i64 j])∧W=w':=by
 obtain⟨b0,b1,hb⟩:=h.step hx hy hp1 hp2 hq1 hq2;refine⟨_,_,hb,by omega,hb.2.2.1,hb.2.2.2.1,fun W=>?_⟩;have hs:=zl _ b0 b1 W;rw[Int.toNat_of_nonneg (Int.emod_nonneg _ (by decide))];exact hs
theorem jh (B:Nat)(v1 v2:Value)(xs ys:List Nat)(a b c d:Int)(z1 z2:Nat)(w:World)
 (ha1 : -1000000000≤a) (ha2:a≤1000000000) (hb1 : -1000000000≤b) (hb2:b≤1000000000) (hc1 : -1000000000≤c) (hc2:c≤1000000000) (hd1 : -1000000000≤d) (hd2:d≤1000000000)
 (hx:∀ x∈xs,x<BB) (hy:∀ y∈ys,y<BB) (hlx:xs.length≤90000) (hly:ys.length≤90000)
 (e1:a*(aj xs:Int)+b*(aj ys:Int)=(z1:Int)) (e2:c*(aj xs:Int)+d*(aj ys:Int)=(z2:Int))
 (h1:Gb.Own .u64 120 B w v1 xs) (h2:Gb.Own .u64 120 B w v2 ys) (hs:Apt v1 v2) (hB:B≤w.heap.size) :
 Calls Tryz.prog 223 #[v1,v2,.int .i64 a,.int .i64 b,.int .i64 c,.int .i64 d] w fun e w'=>∃ u1 u2,e=.returned (.tuple #[u1,u2])∧Gb.Own .u64 120 B w' u1 (ae z1)∧Gb.Own .u64 120 B w' u2 (ae z2) ∧
  Apt u1 u2∧fC w v1 u1∧fC w v2 u2∧Kp (fun g=>At v1 g∨At v2 g) w w':=by
 obtain⟨n,hn⟩:∃ n,n=max xs.length ys.length:=⟨_,rfl⟩;have hmx:max (xs.length:Int) (ys.length:Int)=(n:Int):=by omega
 obtain⟨X,hX⟩:∃ X,X=xs++List.replicate (n-xs.length) 0:=⟨_,rfl⟩;obtain⟨Y,hY⟩:∃ Y,Y=ys++List.replicate (n-ys.length) 0:=⟨_,rfl⟩;have hXl:X.length=n:=by rw[hX,List.length_append,List.length_replicate];omega
 have hYl:Y.length=n:=by rw[hY,List.length_append,List.length_replicate];omega
 have hXB:∀ x∈X,x<BB:=by
  intro x hx';rw[hX]at hx';rcases List.mem_append.1 hx' with h|h
  · exact hx x h
  · rw[(List.mem_replicate.1 h).2];exact bK
 have hYB:∀ y∈Y,y<BB:=by
  intro y hy';rw[hY]at hy';rcases List.mem_append.1 hy' with h|h
  · exact hy y h
  · rw[(List.mem_replicate.1 h).2];exact bK
 have hXv:aj X=aj xs:=by rw[hX];exact ek xs _
 have hYv:aj Y=aj ys:=by rw[hY];exact ek ys _
 rw[← hXv,← hYv]at e1 e2
 have HP1:=hid (show ∀ W,Gb.Own .u64 120 B W v1 xs→B≤W.heap.size→Calls Tryz.prog 241 #[v1,.int .i64 (n:Int)] W fun e w'=>∃ u,e=.returned u∧Gb.Own .u64 120 B w' u X∧fC W v1 u∧Kp (At v1) W w' from
  fun W h hBW=>by rw[hX];exact zX B v1 xs n (by omega) (by omega) W h hBW)
 have HP2:=hid (show ∀ W,Gb.Own .u64 120 B W v2 ys→B≤W.heap.size→Calls Tryz.prog 241 #[v2,.int .i64 (n:Int)] W fun e w'=>∃ u,e=.returned u∧Gb.Own .u64 120 B w' u Y∧fC W v2 u∧Kp (At v2) W w' from
  fun W h hBW=>by rw[hY];exact zX B v2 ys n (by omega) (by omega) W h hBW)
 have hn9:n≤90000:=by omega
 obtain⟨a1,c1,rfl⟩:=aW h1.rd;obtain⟨a2,c2,rfl⟩:=aW h2.rd;obtain ⟨HXB,HYB,HXL,HYL,HE1,HE2,H1,H2,HS,HB⟩:=gD hXB hYB hXl hYl e1 e2 h1 h2 hs hB;clear hn hX hY hXl hYl hXB hYB hXv hYv e1 e2 h1 h2 hs hB hx hy;go_enter func223,ntmps223
 go_wp2_with fail
 refine(HP1.out _ H1.out HB.out).mono ?_;rintro e w1 ⟨u1,rfl,ho1,hno1,hk1⟩;have ho2:=H2.out.kp hk1 (fun g h h'=>HS.out g h' h);have hs1:Apt u1 (.slice a2 ys.length c2):=HS.out.newOr hno1 (fun g hg=>(H2.out.at hg).2);obtain ⟨HO1,HO2,HN1,HK1,HS1⟩:=aQ ho1 ho2 hno1 hk1 hs1;clear ho1 ho2 hno1 hk1 hs1;go_wp2_with fail
 refine(HP2.out _ HO2.out (Nat.le_trans HB.out HK1.out.size)).mono ?_;rintro e w2 ⟨u2,rfl,ho2,hno2,hk2⟩;have ho1:=HO1.out.kp hk2 (fun g h h'=>HS1.out g h h');have hs2:Apt u1 u2:=(HS1.out.symm.newOr hno2 (fun g hg=>(HO1.out.at hg).2)).symm;have HN2:=hid (show fC w (.slice a2 ys.length c2) u2 from(fC.refl w _).trans hno2 HK1.out.size);have HK2:=hid (show Kp (fun g=>At (.slice a1 xs.length c1) g∨At (.slice a2 ys.length c2) g) w w2 from(HK1.out.mono (fun _ h=>Or.inl h)).trans hk2 (fun _ _ h=>Or.inr h));obtain⟨b1,k1,rfl⟩:=aW ho1.rd;obtain⟨b2,k2,rfl⟩:=aW ho2.rd;rw[HXL.out]at ho1 hs2 HN1;rw[HYL.out]at ho2 hs2 HN2;rw[HXL.out,HYL.out];obtain ⟨HO1,HO2,HS2⟩:=ai ho1 ho2 hs2;clear ho1 ho2 hno2 hk2 hs2 HP1 HP2 HS1 HK1;go_wp2
 go_loopw [15,16,17,18,19,20,34] (fun f1 f2 _ _ _ _ ii wr=>∃ (i:Nat) (j1 j2:Int) (o1 o2:List Nat),i≤n∧ii=.int .i64 (i:Int)∧f1=.int .i64 j1∧f2=.int .i64 j2∧Hid (lT a b X Y o1 i j1)∧Hid (lT c d X Y o2 i j2) ∧
  Hid (Gb.Own .u64 120 B wr (.slice b1 n k1) (o1++X.drop i))∧Hid (Gb.Own .u64 120 B wr (.slice b2 n k2) (o2++Y.drop i))∧Hid (Kp (fun g=>At (.slice a1 xs.length c1) g∨At (.slice a2 ys.length c2) g) w wr)∧Hid (w2.heap.size=wr.heap.size)) (fun _ _ _ _ _ _ ii _=>n-(intOf ii).toNat)
 case atStart=>exact⟨0,0,0,[],[],Nat.zero_le _,rfl,rfl,rfl,lT.start _ _ _ _,lT.start _ _ _ _,by rw[List.drop_zero];exact HO1.out,by rw[List.drop_zero];exact HO2.out,HK2.out,rfl⟩
 case round =>
  obtain⟨i,j1,j2,o1,o2,hi,rfl,rfl,rfl,hi1,hi2,hO1,hO2,hK,hZ⟩:=hrel;clear HO1 HO2 HK2;by_cases hlt:i<n
  · obtain⟨g1,rfl,hl1,hg1B,hg1⟩:=wh hO1.out (by omega)
    obtain⟨g2,rfl,hl2,hg2B,hg2⟩:=wh hO2.out (by omega);have hne:g1≠g2:=fun e=>HS2.out g1 (fe.2 rfl) (fe.2 e.symm);have hne':¬ g2=g1:=fun e=>hne e.symm;have ol1:=hi1.out.1;have ol2:=hi2.out.1;have x9:=getD_lt HXB.out i;have y9:=getD_lt HYB.out i;obtain⟨r1,m1,hn1,hr1,ml1,mu1,hs1⟩:=wT hi1.out x9 y9 ha1 ha2 hb1 hb2;obtain⟨r2,m2,hn2,hr2,ml2,mu2,hs2⟩:=wT hi2.out x9 y9 hc1 hc2 hd1 hd2;have q1:=Go.Gb.prod_bound ha1 ha2 x9;have q2:=Go.Gb.prod_bound hb1 hb2 y9;have q3:=Go.Gb.prod_bound hc1 hc2 x9;have q4:=Go.Gb.prod_bound hd1 hd2 y9;have jl1:=hi1.out.2.2.1;have ju1:=hi1.out.2.2.2.1;have jl2:=hi2.out.2.2.1;have ju2:=hi2.out.2.2.2.1;have dx:X.drop i=X.getD i 0 :: X.drop (i+1):=eD (by rw[HXL.out];exact hlt);have dy:Y.drop i=Y.getD i 0 :: Y.drop (i+1):=eD (by rw[HYL.out];exact hlt);have P1:=hO1.out;have P2:=hO2.out;rw[dx]at P1 hl1;rw[dy]at P2 hl2;have cx:=wy P1 hl1 (i:=i) hlt;have cy:=wy P2 hl2 (i:=i) hlt;have fx:=vZ P1 hl1 i;have fy:=vZ P2 hl2 i;have gx:=zK o1 (X.drop (i+1)) (X.getD i 0);have gy:=zK o2 (Y.drop (i+1)) (Y.getD i 0);rw[ol1]at gx;rw[ol2]at gy;rw[gx]at cx;rw[gy]at cy;have w1':=rJ P1 hl1 i r1;have sx:=zJ o1 (X.drop (i+1)) (X.getD i 0) r1;have sy:=zJ o2 (Y.drop (i+1)) (Y.getD i 0) r2;rw[ol1]at sx;rw[ol2]at sy;rw[sx]at w1';have nA2:¬ At (.slice (some ⟨g2,0,none⟩) n k2) g1:=fun h=>hne' (fe.1 h);have nA1:¬ At (.slice (some ⟨g1,0,none⟩) n k1) g2:=fun h=>hne (fe.1 h);have w2':=rJ (rO P2 nA2 i (.int .u64 (r1:Int))) hl2 i r2;rw[sy]at w2';obtain ⟨HW1,HW2⟩:=aF (rO w1' nA1 i (.int .u64 (r2:Int))) w2'
    have kk:Kp (fun g=>At (.slice a1 xs.length c1) g∨At (.slice a2 ys.length c2) g) w ((wr.setCell ⟨g1,i,none⟩ (.int .u64 (r1:Int))).setCell ⟨g2,i,none⟩ (.int .u64 (r2:Int))):=by
        refine(hK.out.set (p:=⟨g1,i,none⟩) (fun hlt=>?_) _).set (p:=⟨g2,i,none⟩) (fun hlt=>?_) _
        · rcases HN1.out g1 (fe.2 rfl) with h|h
          · exact Or.inl h
          · exact absurd hlt (by show ¬ g1<_;omega)
        · rcases HN2.out g2 (fe.2 rfl) with h|h
          · exact Or.inr h
          · exact absurd hlt (by show ¬ g2<_;omega)
    obtain ⟨HKK,HN1',HN2',HS1,HSS2⟩:=aQ kk hn1 hn2 hs1 hs2;clear P1 P2 w1' w2' sx sy gx gy dx dy kk hn1 hn2 hs1 hs2 ol1 ol2 hl1 hl2 hO1 hO2 hi1 hi2 hK nA1 nA2;rw[aJ]at x9 y9;generalize X.getD i 0=x at *;generalize Y.getD i 0=y at *;obtain⟨pa,hpa⟩:∃ t,t=a*(x:Int):=⟨_,rfl⟩;obtain⟨pb,hpb⟩:∃ t,t=b*(y:Int):=⟨_,rfl⟩;obtain⟨pc,hpc⟩:∃ t,t=c*(x:Int):=⟨_,rfl⟩;obtain⟨pd,hpd⟩:∃ t,t=d*(y:Int):=⟨_,rfl⟩;rw[← hpa,← hpb]at HS1;rw[← hpc,← hpd]at HSS2;rw[← hpa]at q1;rw[← hpb]at q2;rw[← hpc]at q3;rw[← hpd]at q4;have ea:=hpa.symm;have eb:=hpb.symm;have ec:=hpc.symm;have ed:=hpd.symm;obtain⟨q1l,q1u⟩:=q1;obtain⟨q2l,q2u⟩:=q2;obtain⟨q3l,q3u⟩:=q3;obtain⟨q4l,q4u⟩:=q4;have v1:IntKind.i64.wrap pa=pa:=IntWalk.i64_in _ (by omega);have v2:IntKind.i64.wrap pb=pb:=IntWalk.i64_in _ (by omega);have v3:IntKind.i64.wrap pc=pc:=IntWalk.i64_in _ (by omega);have v4:IntKind.i64.wrap pd=pd:=IntWalk.i64_in _ (by omega);have v5:IntKind.i64.wrap (pa+pb)=pa+pb:=IntWalk.i64_in _ (by omega);have v6:IntKind.i64.wrap (pa+pb+j1)=pa+pb+j1:=IntWalk.i64_in _ (by omega);have v7:IntKind.i64.wrap (pc+pd)=pc+pd:=IntWalk.i64_in _ (by omega);have v8:IntKind.i64.wrap (pc+pd+j2)=pc+pd+j2:=IntWalk.i64_in _ (by omega);clear hpa hpb hpc hpd;go_wp2_with fail
    refine(HS1.out _).mono ?_;rintro e w' ⟨rfl,rfl⟩;go_wp2_with fail
    refine(HSS2.out _).mono ?_;rintro e w' ⟨rfl,rfl⟩;clear v1 v2 v3 v4 v5 v6 v7 v8 ea eb ec ed;go_wp2;go_roundw
    case rel=>exact⟨i+1,m1,m2,o1++[r1],o2++[r2],by omega,by go_num,rfl,rfl,HN1',HN2',HW1,HW2,HKK,by show w2.heap.size=_;rw[rq,rq];exact hZ.out⟩
    case measure=>simp[intOf];omega
  · obtain rfl:i=n:=by omega
    obtain⟨z1n,hw1,hlt1⟩:=hi1.out.done (by rw[HXL.out];exact Nat.le_refl _) (by rw[HYL.out];exact Nat.le_refl _) HE1.out;obtain⟨z2n,hw2,hlt2⟩:=hi2.out.done (by rw[HXL.out];exact Nat.le_refl _) (by rw[HYL.out];exact Nat.le_refl _) HE2.out;have ju1:=hi1.out.2.2.2.1;have ju2:=hi2.out.2.2.2.1;have ol1:=hi1.out.1;have ol2:=hi2.out.1;obtain⟨m1,rfl⟩:=Int.eq_ofNat_of_zero_le z1n;obtain⟨m2,rfl⟩:=Int.eq_ofNat_of_zero_le z2n;rw[Int.toNat_natCast]at hw1 hlt1 hw2 hlt2;have P1:=hO1.out;have P2:=hO2.out;rw[List.drop_of_length_le (by rw[HXL.out];exact Nat.le_refl _),List.append_nil]at P1;rw[List.drop_of_length_le (by rw[HYL.out];exact Nat.le_refl _),List.append_nil]at P2;have hBw:B≤wr.heap.size:=Nat.le_trans HB.out hK.out.size;have A1:=hid (ji B _ o1 m1 (by omega) (by omega) wr P1 hBw);obtain ⟨HP2,HP1,L1,L2,W1,W2⟩:=bU P2 P1 hlt1 hlt2 hw1 hw2;have hm2:m2≤3000000000:=by omega
    have ho2l:o2.length≤100000:=by omega
    have HBW:=hid hBw;clear P1 P2 hlt1 hlt2 hw1 hw2 z1n z2n ju1 ju2 ol1 ol2 hBw hO1 hO2 hi1 hi2;go_wp2_with fail
    refine A1.out.mono ?_;rintro e w3 ⟨u3,rfl,ho3,hno3,hk3⟩;have T1:=hid (z0S B u3 _ L1.out w3 ho3);rw[W1.out]at T1;have P2':=HP2.out.kp hk3 (fun g h h'=>HS2.out g h' h);have hs3:Apt u3 (.slice b2 i k2):=HS2.out.newOr hno3 (fun g hg=>(HP2.out.at hg).2);have A2:=hid (ji B _ o2 m2 hm2 ho2l w3 P2' (Nat.le_trans HBW.out hk3.size));obtain ⟨HNO3,HK3,HS3,HO3,HPP2⟩:=aQ hno3 hk3 hs3 ho3 P2';clear ho3 hno3 hk3 hs3 P2';go_wp2_with fail
    refine T1.out.mono ?_;rintro e w' ⟨t1,rfl,hot1,hat1,rfl⟩;obtain ⟨HT1,HA1⟩:=aF hot1 hat1;clear hot1 hat1;go_wp2_with fail
    refine A2.out.mono ?_;rintro e w4 ⟨u4,rfl,ho4,hno4,hk4⟩;have T2:=hid (z0S B u4 _ L2.out w4 ho4);rw[W2.out]at T2;obtain ⟨HNO4,HK4⟩:=aF hno4 hk4;clear ho4 hno4 hk4;go_wp2_with fail
    refine T2.out.mono ?_;rintro e w' ⟨t2,rfl,hot2,hat2,rfl⟩;obtain ⟨HT2,HA2⟩:=aF hot2 hat2;clear hot2 hat2;go_wp2;go_ret2
    have zz:=hZ.out;have z3:=HK3.out.size;have zw:=hK.out.size;have zz2:w.heap.size≤w2.heap.size:=by omega
    refine⟨t1,t2,rfl,HT1.out.kp HK4.out (fun g h h'=>HS3.out g (HA1.out g h) h'),HT2.out,?_,?_,?_,?_⟩
    · intro g h h'
      exact(HS3.out.symm.newOr HNO4.out (fun g hg=>(HO3.out.at hg).2)) g (HA2.out g h') (HA1.out g h)
    · intro g h
      rcases HNO3.out g (HA1.out g h) with h'|h'
      · exact HN1.out g h'
      · right;omega
    · intro g h
      rcases HNO4.out g (HA2.out g h) with h'|h'
      · exact HN2.out g h'
      · right;omega
    · refine(hK.out.trans (HK3.out) (fun g hg h=>?_)).trans HK4.out (fun g hg h=>?_)
      · rcases HN1.out g h with h'|h'
        · exact Or.inl h'
        · omega
      · rcases HN2.out g h with h'|h'
        · exact Or.inr h'
        · omega
open Go.Lib (hid)
theorem xm (v:Value)(xs:List Nat)(i:Int)(hi:i<0)(w:World)(h:Rd .u64 w v xs) :
 Calls Tryz.prog 189 #[v,.int .i64 i] w fun e w'=>e=.returned (.int .u64 0)∧w=w':=by
 obtain⟨a,c,rfl⟩:=aW h;clear h;go_enter func189,ntmps189
 go_wp2;go_ret
 exact⟨rfl,rfl⟩
theorem nE (v:Value)(xs:List Nat)(n s t:Nat)(hn:2≤n)(hn2:n≤90000)(hl:xs.length≤90000)(hx:∀ x∈xs,x<BB)(hst:BB=s*t)(hs:0<s)(hh:xs.getD (n-1) 0*s<BB)(w:World)(h:Rd .u64 w v xs) :
 Calls Tryz.prog 225 #[v,.int .i64 (n:Int),.int .u64 (s:Int)] w fun e w'=>e=.returned (.int .u64 ((lead xs n s:Nat):Int))∧w=w':=by
 have c1:Calls Tryz.prog 189 #[v,.int .i64 ((n:Int)-1)] w fun e w'=>e=.returned (.int .u64 ((xs.getD (n-1) 0:Nat):Int))∧w=w':=by
  rw[show(n:Int)-1=((n-1:Nat):Int) by omega];exact iq v xs (n-1) (by omega) (by omega) w h
 have c2:Calls Tryz.prog 189 #[v,.int .i64 ((n:Int)-2)] w fun e w'=>e=.returned (.int .u64 ((xs.getD (n-2) 0:Nat):Int))∧w=w':=by
  rw[show(n:Int)-2=((n-2:Nat):Int) by omega];exact iq v xs (n-2) (by omega) (by omega) w h
 have c3:Calls Tryz.prog 189 #[v,.int .i64 ((n:Int)-3)] w fun e w'=>e=.returned (.int .u64 ((third xs n:Nat):Int))∧w=w':=by
  unfold third
  by_cases h3:n≥3
  · rw[if_pos h3,show(n:Int)-3=((n-3:Nat):Int) by omega]
    exact iq v xs (n-3) (by omega) (by omega) w h
  · rw[if_neg h3]
    exact xm v xs _ (by omega) w h
 have k1:=getD_lt hx (n-2)
 have k2:third xs n<BB:=by
  unfold third
  split
  · exact getD_lt hx _
  · exact bK
 have hlt:=uo k1 k2 hst hs hh;unfold lead
 obtain ⟨C1,C2,C3⟩:=ai c1 c2 c3;clear c1 c2 c3 h
 have hsB:s≤BB:=by
  rw[hst];have:s*1≤s*t:=Nat.mul_le_mul_left _ (by rcases Nat.eq_zero_or_pos t with h0|h0;(rw[h0,Nat.mul_zero]at hst;have:=bK;omega);exact h0);omega
 have hxB:=getD_lt hx (n-1);clear hst hx;generalize xs.getD (n-1) 0=hi at *;generalize xs.getD (n-2) 0=mi at *;generalize third xs n=lo at *
 have hp2:lo*s≤1000000000*1000000000:=by
  have:=Nat.mul_le_mul (Nat.le_of_lt k2) hsB;rw[aJ]at this;omega
 rw[aJ]at k1 k2 hlt hsB hxB ⊢;obtain⟨p1,hp1⟩:∃ p:Nat,p=(hi*1000000000+mi)*s:=⟨_,rfl⟩;obtain⟨p2,hp2'⟩:∃ p:Nat,p=lo*s:=⟨_,rfl⟩;rw[← hp1,← hp2']at hlt ⊢;rw[← hp2']at hp2;have e1:((hi:Int)*1000000000+(mi:Int))*(s:Int)=(p1:Int):=by rw[hp1,Int.natCast_mul,Int.natCast_add,Int.natCast_mul];rfl
 have e2:(lo:Int)*(s:Int)=(p2:Int):=by rw[hp2',Int.natCast_mul]
 have b1:p1<1000000000000000000:=by omega
 have v1:IntKind.u64.wrap (p1:Int)=(p1:Int):=IntWalk.u64_in _ (by omega);have v2:IntKind.u64.wrap (p2:Int)=(p2:Int):=IntWalk.u64_in _ (by omega);clear hp1 hp2' hh;go_enter func225,ntmps225
 go_wp2_with fail
 refine C1.out.mono ?_;rintro e w' ⟨rfl,rfl⟩;go_wp2_with fail
 refine C2.out.mono ?_;rintro e w' ⟨rfl,rfl⟩;go_wp2_with fail
 refine C3.out.mono ?_;rintro e w' ⟨rfl,rfl⟩;go_wp2;go_ret
 exact⟨rfl,rfl⟩
def tF (X Y a b c d:Nat) (o:Bool):Prop:=Fac a b c d∧Dtm a b c d o∧(b=0∨∃ x y,il X Y x y a b c d o∧y≤x∧d≤y∧b+d≤x-y)
def qM (X Y x y a b c d:Nat) (o:Bool):Prop:=il X Y x y a b c d o∧Fac a b c d∧Dtm a b c d o∧y≤x
theorem qM.start {X Y:Nat}(h:Y≤X):qM X Y X Y 1 0 0 1 false:=⟨il.start X Y,Fac.start,Dtm.start,h⟩
theorem tF.start (X Y:Nat):tF X Y 1 0 0 1 false:=⟨Fac.start,Dtm.start,Or.inl rfl⟩
theorem qM.sure {X Y x y a b c d:Nat}{o:Bool}(h:qM X Y x y a b c d o)(h1:d≤y)(h2:b+d≤x-y):tF X Y a b c d o:=⟨h.2.1,h.2.2.1,Or.inr ⟨x,y,h.1,h.2.2.2,h1,h2⟩⟩
theorem qM.step {X Y x y a b c d:Nat}{o:Bool}(h:qM X Y x y a b c d o)(hy:0<y):qM X Y y (x%y) c d (a+x / y*c) (b+x / y*d) (!o):=by
 obtain⟨h1,h2,h3,h4⟩:=h;have hq:1≤x / y:=by rw[Nat.le_div_iff_mul_le hy];omega
 exact⟨h1.step,h2.step hq,h3.step,Nat.le_of_lt (Nat.mod_lt x hy)⟩
theorem pO (X Y:Nat)(hX:X<1000000000000000000)(hYX:Y≤X)(w:World) :
 Calls Tryz.prog 224 #[.int .u64 (X:Int),.int .u64 (Y:Int)] w fun e w'=>∃ (a b c d:Nat) (o:Bool),e=.returned (Stp a b c d o)∧Hid (tF X Y a b c d o)∧Below w.heap.size w w':=by
 have z0:Sb (((w.alloc (.cells #[.int .u64 0,.int .u64 0,.int .u64 0,.int .u64 0,.bool false] 181)).alloc (.cells #[.int .u64 1,.int .u64 0,.int .u64 0,.int .u64 1,.bool false] 181)).alloc (.cells #[.int .u64 1,.int .u64 0,.int .u64 0,.int .u64 1,.bool false] 181)) w.heap.size 0 0 0 0 false:=by
  unfold Sb
  rw[Below.heap_alloc _ _ _ (by simp;omega),Below.heap_alloc _ _ _ (by simp),heap_alloc_new];rfl
 have z1:Sb (((w.alloc (.cells #[.int .u64 0,.int .u64 0,.int .u64 0,.int .u64 0,.bool false] 181)).alloc (.cells #[.int .u64 1,.int .u64 0,.int .u64 0,.int .u64 1,.bool false] 181)).alloc (.cells #[.int .u64 1,.int .u64 0,.int .u64 0,.int .u64 1,.bool false] 181)) (w.heap.size+1) 1 0 0 1 false:=by
  unfold Sb
  rw[Below.heap_alloc _ _ _ (by simp)];have:=heap_alloc_new (w.alloc (.cells #[.int .u64 0,.int .u64 0,.int .u64 0,.int .u64 0,.bool false] 181)) (.cells #[.int .u64 1,.int .u64 0,.int .u64 0,.int .u64 1,.bool false] 181);rw[World.size_alloc]at this;exact this
 have z2:Sb (((w.alloc (.cells #[.int .u64 0,.int .u64 0,.int .u64 0,.int .u64 0,.bool false] 181)).alloc (.cells #[.int .u64 1,.int .u64 0,.int .u64 0,.int .u64 1,.bool false] 181)).alloc (.cells #[.int .u64 1,.int .u64 0,.int .u64 0,.int .u64 1,.bool false] 181)) (w.heap.size+1+1) 1 0 0 1 false:=by
  unfold Sb
  have:=heap_alloc_new ((w.alloc (.cells #[.int .u64 0,.int .u64 0,.int .u64 0,.int .u64 0,.bool false] 181)).alloc (.cells #[.int .u64 1,.int .u64 0,.int .u64 0,.int .u64 1,.bool false] 181)) (.cells #[.int .u64 1,.int .u64 0,.int .u64 0,.int .u64 1,.bool false] 181);rw[World.size_alloc,World.size_alloc]at this;exact this
 obtain ⟨HZ0,HZ1,HZ2⟩:=ai z0 z1 z2;have HN0:=hid ((((Below.refl w.heap.size w).alloc (Nat.le_refl _) (.cells #[.int .u64 0,.int .u64 0,.int .u64 0,.int .u64 0,.bool false] 181)).alloc (by simp) (.cells #[.int .u64 1,.int .u64 0,.int .u64 0,.int .u64 1,.bool false] 181)).alloc (by simp;omega) (.cells #[.int .u64 1,.int .u64 0,.int .u64 0,.int .u64 1,.bool false] 181));have HX:=hid hX;have HYX:=hid hYX;clear z0 z1 z2 hX hYX;go_enter func224,ntmps224
 go_wp2;go_loopw [0,1] (fun xx yy wr=>∃ (x y a b c d a2 b2 c2 d2:Nat) (o o2:Bool),xx=.int .u64 (x:Int)∧yy=.int .u64 (y:Int)∧x≤1000000000000000000∧Hid (qM X Y x y a b c d o)∧Hid (tF X Y a2 b2 c2 d2 o2)∧Hid (Sb wr (w.heap.size+1) a b c d o)∧Hid (Sb wr (w.heap.size+1+1) a2 b2 c2 d2 o2)∧Hid (Sb wr w.heap.size 0 0 0 0 false)∧Hid (Below w.heap.size w wr)) (fun _ yy _=>(intOf yy).toNat)
 case atStart=>exact⟨X,Y,1,0,0,1,1,0,0,1,false,false,rfl,rfl,by have:=HX.out;omega,qM.start HYX.out,tF.start X Y,HZ1,HZ2,HZ0,HN0⟩
 case round =>
  obtain⟨x,y,a,b,c,d,a2,b2,c2,d2,o,o2,rfl,rfl,hx9,hI,hSu,hN,hS,hR,hn⟩:=hrel;clear HZ0 HZ1 HZ2 HN0;have hyx:=hI.out.2.2.2;have hd1:=hI.out.2.1.pos;obtain⟨c0,c1,c2',c3,c4⟩:=bE hN.out;by_cases h1:d≤y
  · have hbd:d≤1000000000000000000∧b≤1000000000000000000:=by
        have:=hI.out.1.bound (by omega);have:=hI.out.2.1.le (K:=1000000000000000000) (by have:=HX.out;omega) (by omega);have:=HX.out;omega
    obtain⟨hd9,hb9⟩:=hbd;obtain⟨t,ht⟩:∃ t:Nat,t=x-y:=⟨_,rfl⟩;obtain⟨s,hs⟩:∃ s:Nat,s=b+d:=⟨_,rfl⟩;have et:(x:Int)-(y:Int)=(t:Int):=by omega
    have es:(b:Int)+(d:Int)=(s:Int):=by omega
    have vt:IntKind.u64.wrap (t:Int)=(t:Int):=IntWalk.u64_in _ (by omega);have vs:IntKind.u64.wrap (s:Int)=(s:Int):=IntWalk.u64_in _ (by omega);obtain ⟨HTT,HSS⟩:=aF ht hs;clear ht hs;by_cases h2:s≤t
    · have hy0:0<y:=by omega
      have hsure:=hid (hI.out.sure h1 (by have:=HTT.out;have:=HSS.out;omega));have hnext:=hid (hI.out.step hy0);have hbd:=hI.out.1.step.bound hy0;have k1:a+x / y*c≤2000000000000000000:=by have:=HX.out;have:=HYX.out;omega
      have k2:b+x / y*d≤2000000000000000000:=by have:=HX.out;omega
      obtain⟨a',ha'⟩:∃ a':Nat,a'=a+x / y*c:=⟨_,rfl⟩;obtain⟨b',hb'⟩:∃ b':Nat,b'=b+x / y*d:=⟨_,rfl⟩;have hW:=hid (show CQ 188 #[.agg #[.int .u64 (a:Int),.int .u64 (b:Int),.int .u64 (c:Int),.int .u64 (d:Int),.bool o],.int .u64 ((x:Int) / (y:Int))] (.agg #[.int .u64 (c:Int),.int .u64 (d:Int),.int .u64 (a':Int),.int .u64 (b':Int),.bool (!o)]) from fun W=>by rw[ha',hb'];exact pJ a b c d (x / y) o k1 k2 W);rw[← ha',← hb']at hnext;clear ha' hb' hbd k1 k2;have f0:=bi hS.out 0;have f1:=bi hS.out 1;have f2:=bi hS.out 2;have f3:=bi hS.out 3;have f4:=bi hS.out 4;obtain⟨e0,e1,e2,e3,e4⟩:=bE hS.out;have hS5:=fD hS.out a b c d o;have hN5:=dF (g:=w.heap.size+1+1) hN.out (by omega) a b c d o;have hR5:=dF (g:=w.heap.size+1+1) hR.out (by omega) a b c d o;have hn5:=dh hn.out (g:=w.heap.size+1+1) (by omega) a b c d o;obtain ⟨HS5,HN5,HR5,Hn5⟩:=aG hS5 hN5 hR5 hn5;clear hS5 hN5 hR5 hn5;go_wp2;clear e0 e1 e2 e3 e4 f0 f1 f2 f3 f4 c0 c1 c2' c3 c4 et es vt vs h2;rw[← set5];generalize set5 wr (w.heap.size+1+1) a b c d o=W5 at *;obtain⟨c0,c1,c2',c3,c4⟩:=bE HN5.out;have hN5':=hid (show Sb W5.drew (w.heap.size+1) a b c d o from HN5.out);have y1:(1:Int)≤(y:Int):=by omega
      have yz:((y:Int)==0)=false:=beq_eq_false_iff_ne.2 (by omega);have hq64:x / y<18446744073709551616:=Nat.lt_of_le_of_lt (Nat.div_le_self x y) (by omega);have hwq:IntKind.u64.wrap ((x:Int) / (y:Int))=(x:Int) / (y:Int):=IntWalk.u64_in _ ⟨Int.natCast_nonneg (x / y),by have:=(Int.ofNat_lt.2 hq64);omega⟩;have htm:(x:Int).tmod (y:Int)=(x:Int)%(y:Int):=rfl;clear hq64;go_region_with (go_at_call 188;go_must (refine(hW.out _).mono ?_;rintro e w1 ⟨rfl,hb1⟩;obtain⟨s0,s1,s2,s3,s4⟩:=bE (bI hN5'.out hb1);have f0:=bi (bI hN5'.out hb1) 0;have f1:=bi (bI hN5'.out hb1) 1;have f2:=bi (bI hN5'.out hb1) 2;have f3:=bi (bI hN5'.out hb1) 3;have f4:=bi (bI hN5'.out hb1) 4))
      all_goals
       have hN1:=bI hN5'.out hb1;have hS1:=bI (show Sb W5.drew (w.heap.size+1+1) a b c d o from HS5.out) hb1;have hR1:=bI (show Sb W5.drew w.heap.size 0 0 0 0 false from HR5.out) hb1;have hN2:=hid (fD hN1 c d a' b' (!o));have hS2:=hid (dF (g:=w.heap.size+1) hS1 (by omega) c d a' b' (!o));have hR2:=hid (dF (g:=w.heap.size+1) hR1 (by omega) c d a' b' (!o));have hn2:=hid (dh (Hn5.out.drew.trans (hb1.mono (show w.heap.size≤W5.drew.heap.size from Hn5.out.size))) (g:=w.heap.size+1) (by omega) c d a' b' (!o));have hlt:=hid (Nat.mod_lt x hy0);clear hN1 hS1 hR1 s0 s1 s2 s3 s4 f0 f1 f2 f3 f4 hb1 hN5' hW c0 c1 c2' c3 c4 hwq;change Exit.then _ _ Exit.normal _ (set5 w1 (w.heap.size+1) c d a' b' (!o));generalize set5 w1 (w.heap.size+1) c d a' b' (!o)=w2 at *;have hxm:(x:Int)%(y:Int)=((x%y:Nat):Int):=rfl;have hmw:IntKind.u64.wrap (((x%y:Nat):Int))=((x%y:Nat):Int):=IntWalk.u64_in _ (by have:=hlt.out;omega);obtain⟨r,hr⟩:∃ r:Nat,r=x%y:=⟨_,rfl⟩;rw[← hr]at hxm hmw hnext hlt;clear hr;go_wp2;go_quiet (fail)
       have hn3:=hid (below_drewN' hn2.out nq);have hS3:=hid (show Sb (w2.drewN nq) (w.heap.size+1+1) a b c d o from hS2.out);have hN3:=hid (show Sb (w2.drewN nq) (w.heap.size+1) c d a' b' (!o) from hN2.out);have hR3:=hid (show Sb (w2.drewN nq) w.heap.size 0 0 0 0 false from hR2.out);go_wp2;go_roundw
       case rel=>exact⟨y,r,c,d,a',b',a,b,c,d,!o,o,rfl,rfl,by omega,hnext,hsure,hN3,hS3,hR3,hn3⟩
       case measure=>simp[intOf];have:=hlt.out;omega
    · have f0:=bi hR.out 0
      have f1:=bi hR.out 1;have f2:=bi hR.out 2;have f3:=bi hR.out 3;have f4:=bi hR.out 4;obtain⟨r0,r1,r2,r3,r4⟩:=bE hR.out;obtain⟨e0,e1,e2,e3,e4⟩:=bE hS.out;have hn2:=hid (dh hn.out (g:=w.heap.size) (Nat.le_refl _) a2 b2 c2 d2 o2);have hR2:=hid (fD hR.out a2 b2 c2 d2 o2);go_wp2;clear f0 f1 f2 f3 f4 r0 r1 r2 r3 r4 e0 e1 e2 e3 e4 c0 c1 c2' c3 c4;rw[← set5];generalize set5 wr w.heap.size a2 b2 c2 d2 o2=w2 at *;obtain⟨q0,q1,q2,q3,q4⟩:=bE hR2.out;refine bodyPost_ret (v:=Stp a2 b2 c2 d2 o2) (by simp[results,results224,go_sem,Stp,q0,q1,q2,q3,q4]) rfl ⟨a2,b2,c2,d2,o2,rfl,hSu,hn2.out⟩
  · have f0:=bi hR.out 0
    have f1:=bi hR.out 1;have f2:=bi hR.out 2;have f3:=bi hR.out 3;have f4:=bi hR.out 4;obtain⟨r0,r1,r2,r3,r4⟩:=bE hR.out;obtain⟨e0,e1,e2,e3,e4⟩:=bE hS.out;have hn2:=hid (dh hn.out (g:=w.heap.size) (Nat.le_refl _) a2 b2 c2 d2 o2);have hR2:=hid (fD hR.out a2 b2 c2 d2 o2);go_wp2;clear f0 f1 f2 f3 f4 r0 r1 r2 r3 r4 e0 e1 e2 e3 e4 c0 c1 c2' c3 c4;rw[← set5];generalize set5 wr w.heap.size a2 b2 c2 d2 o2=w2 at *;obtain⟨q0,q1,q2,q3,q4⟩:=bE hR2.out;refine bodyPost_ret (v:=Stp a2 b2 c2 d2 o2) (by simp[results,results224,go_sem,Stp,q0,q1,q2,q3,q4]) rfl ⟨a2,b2,c2,d2,o2,rfl,hSu,hn2.out⟩
end Go.Proofs.YtodcdibanokjjaaGreatDoor
open Go.Lib (hid)
namespace Go.Proofs.YtodcdibanokjjaaGreatDoor
open Go.RowKit Go.Gb
theorem Tryz.info79:(Tryz.prog.info? 79).map (fun i=>(i.zero,i.size,i.bytes))=some (some (.int .u32 0),1,4):=by kernel_rfl
theorem lc (b o c:Nat)(xs:List Nat)(hB:∀ x∈xs,x<BB)(hxc:xs.length≤c)(hcm:c≤maxLen)(w:World)
 (hc:∀ i,i<xs.length→w.cell? ⟨b,o+i,none⟩=some (.int .u32 ((xs.getD i 0:Nat):Int))) :
 Calls Tryz.prog 99 #[.slice (some ⟨b,o,none⟩) xs.length c] w fun e w'=>e=.returned (.slice (some ⟨b,o,none⟩) (ae (aj xs)).length c)∧w=w':=by
 unfold maxLen at hcm
 have HC:=hid hc;have HB:=hid hB;clear hc hB;go_enter func99,ntmps99
 go_wp2;go_loop [0] (fun x=>∃ n:Nat,n≤c∧x=.slice (some ⟨b,o,none⟩) n c∧Zs xs n) (fun x=>match x with | .slice _ n _=>n|_=>0)
 case atStart=>exact⟨xs.length,hxc,rfl,Zs.start xs⟩
 case round =>
  obtain⟨n,hn,rfl,hz⟩:=hrel;by_cases h0:n=0
  · have HF:=hid (hz.fin HB.out (Or.inl h0))
    subst h0;go_wp2;go_ret
    exact⟨kr HF.out,rfl⟩
  · have hp:0<n:=by omega
    have hcell:=HC.out (n-1) (by have:=hz.1;omega);by_cases hd:xs.getD (n-1) 0=0
    · rw[hd]at hcell
      have hz':=hz.step hd;clear hd;go_wp2;go_round
      case rel=>exact⟨n-1,by omega,rfl,hz'⟩
      case measure=>simp;omega
    · have HF:=hid (hz.fin HB.out (Or.inr hd))
      obtain⟨d,hdd⟩:∃ d,d=xs.getD (n-1) 0:=⟨_,rfl⟩;rw[← hdd]at hcell hd;have hb:((d:Int)==0)=false:=by simpa using hd
      have hd':0<d:=by omega
      clear hd hdd;go_wp2;go_ret
      exact⟨kr HF.out,rfl⟩
theorem gz (k:TypeId)(B:Nat)(v:Value)(xs:List Nat)(hB:∀ x∈xs,x<BB)(w:World)(h:Gb.Own .u32 k B w v xs) :
 Calls Tryz.prog 99 #[v] w fun e w'=>∃ v',e=.returned v'∧Gb.Own .u32 k B w v' (ae (aj xs))∧w=w':=by
 have hd:xs.take (ae (aj xs)).length=ae (aj xs)∧(ae (aj xs)).length≤xs.length:=by
  have hlen:(ae (aj xs)).length≤xs.length:=bJ (dJ xs hB);refine⟨?_,hlen⟩;generalize hm:(ae (aj xs)).length=m at hlen
  have key:∀ (n:Nat),Zs xs n→ae (aj xs)=xs.take (ae (aj xs)).length:=by
   intro n
   induction n with
   | zero=>intro hz;have e:=gH hz.1 hB hz.2 (Or.inl rfl);have:=hz.fin hB (Or.inl rfl);rw[← this];exact e
   | succ n ih =>
     intro hz;by_cases h0:xs.getD n 0=0
     · exact ih (by have:=hz.step (by simpa using h0);simpa using this)
     · have e:=gH hz.1 hB hz.2 (Or.inr (by simpa using h0))
       have:=hz.fin hB (Or.inr (by simpa using h0));rw[← this];exact e
  rw[← hm];exact(key _ (Zs.start xs)).symm
 have h0:=h;obtain⟨h1,h2⟩:=h;rcases h2 with⟨rfl,h3⟩|⟨g,cap,cur,rfl,hg,hh,hn,hc,hs,ht⟩
 · obtain rfl:xs=[]:=List.length_eq_zero_iff.1 h3
   have hz:ae (aj [])=[]:=by unfold aj;exact aS
   rw[hz];clear hd hB h0 hz;go_enter func99,ntmps99
   go_wp2;refine wp_loop_rounds 1 ?_;rw[rounds_succ];go_wp2;go_ret
   exact⟨_,rfl,Gb.Own.nil _ _ _ _,rfl⟩
 · have hrd:∀ i,i<xs.length→w.cell? ⟨g,0+i,none⟩=some (.int .u32 ((xs.getD i 0:Nat):Int)):=by
    rcases h0.rd with⟨hv,_⟩|⟨b,o,c,hv,_,_,_,h5⟩
    · injection hv with hv;cases hv
    · injection hv with e1 e2 e3
      injection e1 with e1
      injection e1 with e4 e5 e6
      subst e4 e5 e3;exact h5
   refine(lc g 0 cap xs hB hn hc w hrd).mono fun e w' ⟨he,hw⟩=>⟨_,he,?_,hw⟩;have:=h0.take (ae (aj xs)).length hd.2;rwa [hd.1]at this
theorem fT (s:ByteArray)(w:World)(hs:s.size≤maxLen) :
 Calls Tryz.prog 82 #[.string s] w fun e w'=>e=.returned (.bool (vld s.data.toList))∧w=w':=by
 unfold maxLen at hs
 have hcase:s.size=0∨(s.size=1∨(1<s.size∧∃ h:0<s.size,((s[0].toNat:Int) != 48)=true))∨(1<s.size∧∃ h:0<s.size,((s[0].toNat:Int) != 48)=false):=by
  rcases Nat.lt_trichotomy s.size 1 with h|h|h
  · left;omega
  · right;left;left;exact h
  · have h0:0<s.size:=by omega
    by_cases hc:(s[0].toNat:Int)=48
    · right;right;exact⟨h,h0,by rw[bne_eq_false_iff_eq];exact hc⟩
    · right;left;right;exact⟨h,h0,by rw[bne_iff_ne];exact hc⟩
 rcases hcase with h0|(h1|⟨h1,h2,h3⟩)|⟨h1,h2,h3⟩
 · have HF:=hid (show vld s.data.toList=false by rw[ql h0];rfl)
   have k1:s.size≤0:=by omega
   have k2:((s.size:Int)==1)=false:=beq_eq_false_iff_ne.2 (by omega);clear h0;go_enter func82,ntmps82
   go_wp2;refine wp_loop_rounds 1 ?_;rw[rounds_succ];go_wp2;go_ret
   exact⟨df HF.out.symm,rfl⟩
 · have k2:((s.size:Int)==1)=true:=beq_iff_eq.2 (by omega)
   have H1:=hid h1;have k3:0<s.size:=by omega
   clear h1;go_enter func82,ntmps82
   go_wp2;go_loop [3] (fun i=>∃ k:Nat,k≤s.size∧i=.int .i64 k∧alld s k) (fun i=>s.size-(intOf i).toNat)
   case atStart=>exact⟨0,Nat.zero_le _,rfl,kU s⟩
   case round =>
    obtain⟨k,hk,rfl,ha⟩:=hrel;go_wp2
    all_goals first
        | (go_round
           case rel=>exact⟨k+1,by omega,by go_num,kW ha (by assumption) (by omega) (by omega)⟩
           case measure=>simp[intOf];omega)
        | (have hlt:k<s.size:=by assumption
           go_ret
           exact⟨df (pK hlt (by omega)).symm,rfl⟩)
        | (obtain rfl:k=s.size:=by omega
           go_ret
           exact⟨df (tQ k3 ha (Or.inl H1.out)).symm,rfl⟩)
 · have k2:((s.size:Int)==1)=false:=beq_eq_false_iff_ne.2 (by omega)
   go_enter func82,ntmps82
   go_wp2;go_loop [3] (fun i=>∃ k:Nat,k≤s.size∧i=.int .i64 k∧alld s k) (fun i=>s.size-(intOf i).toNat)
   case atStart=>exact⟨0,Nat.zero_le _,rfl,kU s⟩
   case round =>
    obtain⟨k,hk,rfl,ha⟩:=hrel;go_wp2
    all_goals first
        | (go_round
           case rel=>exact⟨k+1,by omega,by go_num,kW ha (by assumption) (by omega) (by omega)⟩
           case measure=>simp[intOf];omega)
        | (have hlt:k<s.size:=by assumption
           go_ret
           exact⟨df (pK hlt (by omega)).symm,rfl⟩)
        | (obtain rfl:k=s.size:=by omega
           go_ret
           exact⟨df (tQ h2 ha (Or.inr (by rw[bne_iff_ne]at h3;exact h3))).symm,rfl⟩)
 · have k2:((s.size:Int)==1)=false:=beq_eq_false_iff_ne.2 (by omega)
   go_enter func82,ntmps82
   go_wp2;go_loop [3] (fun i=>∃ k:Nat,k≤s.size∧i=.int .i64 k∧alld s k) (fun i=>s.size-(intOf i).toNat)
   case atStart=>exact⟨0,Nat.zero_le _,rfl,kU s⟩
   case round =>
    obtain⟨k,hk,rfl,ha⟩:=hrel;go_wp2
    all_goals first
        | (go_round
           case rel=>exact⟨k+1,by omega,by go_num,kW ha (by assumption) (by omega) (by omega)⟩
           case measure=>simp[intOf];omega)
        | (have hlt:k<s.size:=by assumption
           go_ret
           exact⟨df (pK hlt (by omega)).symm,rfl⟩)
        | (obtain rfl:k=s.size:=by omega
           go_ret
           exact⟨df (vC h1 (by rw[bne_eq_false_iff_eq]at h3;exact h3)).symm,rfl⟩)
theorem zW {s:ByteArray}(h:s.data.toList.all isD=true){a i:Nat}(hai:a≤i)(hi:i<s.size) :
 aK ((s.data.toList.drop a).take (i+1-a))=aK ((s.data.toList.drop a).take (i-a))*10+(s[i].toNat-48)∧48≤s[i].toNat∧s[i].toNat≤57:=by
 have h1:=List.all_eq_true.1 h (s.data.toList[i]'(by rw[aH];exact hi)) (List.getElem_mem _);rw[eT,fo s i hi]at h1
 have e:(s.data.toList.drop a).take (i+1-a)=(s.data.toList.drop a).take (i-a)++[s[i]]:=by
  rw[show i+1-a=(i-a)+1 by omega,List.take_succ_eq_append_getElem (by rw[List.length_drop,aH];omega)];congr 2
  rw[List.getElem_drop,← fo s i hi];congr 1
  omega
 rw[e,kH];exact⟨rfl,h1⟩
theorem z3U {s:ByteArray}(h:s.data.toList.all isD=true)(a n:Nat)(hn:n≤8):aK ((s.data.toList.drop a).take n)<100000000:=by
 have h1:=gF ((s.data.toList.drop a).take n) (by
  rw[List.all_eq_true]at h ⊢
  exact fun c hc=>h c (List.mem_of_mem_drop (List.mem_of_mem_take hc)))
 have h2:10^((s.data.toList.drop a).take n).length≤10^8:=Nat.pow_le_pow_right (by decide) (by rw[List.length_take];omega);omega
theorem jo (s:ByteArray)(h:s.data.toList.all isD=true)(hl:s.size≤100000)(w:World) :
 Calls Tryz.prog 84 #[.string s] w fun e w'=>∃ v,e=.returned v∧Gb.Own .u32 79 w.heap.size w' v (ae (aK s.data.toList))∧Below w.heap.size w w':=by
 obtain⟨i0,hi,hz0,hz1,hz2⟩:=info_parts Tryz.info79;have H:=hid h;clear h;have HO0:=hid (World.ownsRow_nil w w.heap.size 79 1);go_enter func84,ntmps84
 go_wp2;go_loopw [3,4] (fun v ee wr=>∃ (z:Int) (os:List Nat),-9≤z∧z≤s.size∧ee=.int .i64 z∧os.length+z.toNat≤s.size∧Hid (wr.ownsRow w.heap.size 79 1 v os.length (cls .u32 os))∧Hid (gK s.data.toList os z.toNat)∧Hid (Below w.heap.size w wr)) (fun _ ee _=>(intOf ee).toNat)
 case atStart=>exact⟨(s.size:Int),[],by omega,by omega,rfl,by simp,HO0,by have:=gK.start s.data.toList;rw[aH]at this;exact this,Below.refl _ _⟩
 case round =>
  obtain⟨z,os,hz9,hzs,rfl,hlen,ho,hr,hn⟩:=hrel;by_cases hz:0<z
  · obtain⟨ez,rfl⟩:=Int.eq_ofNat_of_zero_le (show 0≤z by omega)
    obtain⟨a,ha⟩:∃ a:Nat,a=ez-9:=⟨_,rfl⟩;rw[Int.toNat_natCast]at hr hlen;obtain⟨hst,hbd⟩:=hr.out.step (a:=a) H.out (by rw[aH];omega) (by omega) (by omega);obtain ⟨HST,HBD⟩:=aF hst hbd;have hmx:max 0 ((ez:Int)-9)=(a:Int):=by omega
    have hae:a≤ez:=by omega
    have hea:ez≤a+9:=by omega
    have HA:=hid ha;clear hst hbd ha hr;go_wp2;obtain⟨wo,rfl⟩:∃ wo:World,wo=wr:=⟨_,rfl⟩;go_loop [5,6] (fun ww ii=>∃ i m:Nat,a≤i∧i≤ez∧ii=.int .i64 i∧ww=.int .u32 (m:Int)∧Hid (m=aK ((s.data.toList.drop a).take (i-a)))) (fun _ ii=>ez-(intOf ii).toNat)
    case atStart=>exact⟨a,0,Nat.le_refl _,hae,rfl,rfl,by rw[Nat.sub_self];rfl⟩
    case round =>
        obtain⟨i,m,hai,hie,rfl,rfl,hm⟩:=hrel;by_cases hlt:i<ez
        · obtain⟨h1,h2,h3⟩:=zW H.out hai (show i<s.size by omega)
          have h4:m<100000000:=by rw[hm.out];exact z3U H.out a (i-a) (by omega)
          have h5:i<s.size:=by omega
          have H1:=hid h1;clear h1;have k4:(m:Int)≤99999999:=by omega
          clear h4;go_wp2;go_round
          case rel=>exact⟨i+1,m*10+(s[i].toNat-48),by omega,by omega,by go_num,by congr 1;omega,by have:=hm.out;subst this;exact H1.out.symm⟩
          case measure=>simp[intOf];omega
        · have hie2:i=ez:=by omega
          have hm':=hm.out;rw[hie2]at hm';have HM:=hid hm';clear hm hm' hie2;go_wp2_with (at_builtin;refine wpList_append_own _ rfl _ _ 44 rfl w.heap.size 79 i0 (.int .u32 0) 1 4 underlying44 hi hz0 hz1 hz2 rfl (by decide) _ _ _ rfl (ho.out.alloc _) ⟨wo.heap.size,0,none⟩ 1 1 [.int .u32 (m:Int)] rfl rfl (cells_one _ _ _) (by intro u hu;simp at hu;subst hu;rfl) (by unfold maxLen;omega) (by omega) (by have:=hn.out.size;simp;omega) ?_)
          intro v' w1 hown' hgrow _;have HO:=hid hown';have HN:=hid ((hn.out.alloc hn.out.size _).grown hgrow (by have:=hn.out.size;simp;omega) (fun k hk=>(ho.out.lt k hk).1));clear hown' hgrow;go_wp2;go_roundw
          case rel=>exact⟨(ez:Int)-9,os++[m],by omega,by omega,rfl,by simp;omega,by have:=HO.out;rw[bX,List.length_append];exact this,by rw[show((ez:Int)-9).toNat=a by have:=HA.out;omega,HM.out];exact HST,HN⟩
          case measure=>simp[intOf];omega
  · have hz0':z.toNat=0:=by omega
    have hr':=hr.out;rw[hz0']at hr';obtain⟨hB,hv⟩:=hr'.done;have htr:=gz 79 w.heap.size _ os hB wr ho.out;rw[hv]at htr;have HTR:=hid htr;clear hr' hB hv htr hz0';go_wp2_with fail
    refine HTR.out.mono ?_;rintro e w2 ⟨v',rfl,hown,rfl⟩;go_wp2;go_ret
    exact⟨v',rfl,hown,hn.out⟩
open Go.Lib (hid)
theorem jW {k:IntKind}{a b:Int}(h:a=b):Value.int k a=.int k b:=by rw[h]
theorem z2t {d:Nat}(h:d<10):Value.int .u8 (48+(d:Int))=.int .u8 ((UInt8.ofNat (48+d)).toNat:Int):=by
 rw[fB h];exact jW (by omega)
theorem vN {W:World}{B:Nat}{v:Value}{bs:List UInt8}{d:Nat}(hd:d<10)(h:W.ownsRow B 5 1 v (bs.length+1) (Lib.byteCells bs++[.int .u8 (48+(d:Int))])):W.ownsRow B 5 1 v (bs++[UInt8.ofNat (48+d)]).length (Lib.byteCells (bs++[UInt8.ofNat (48+d)])):=by
 rw[z2t hd]at h;rw[List.length_append,Lib.byteCells_append];exact h
theorem z2X (b o c:Nat)(xs:List Nat)(hx:∀ x∈xs,x<BB)(hp:0<xs.length)(hlast:xs.getD (xs.length-1) 0≠0)(hl:xs.length≤10000)(w:World)(hb:b<w.heap.size)
 (hcx:∀ i,i<xs.length→w.cell? ⟨b,o+i,none⟩=some (.int .u32 ((xs.getD i 0:Nat):Int))) :
 CR 56 #[.slice (some ⟨b,o,none⟩) xs.length c] w (.string ⟨(Lib.decDigits (aj xs)).toArray⟩):=by
 obtain⟨i0,hi,hz0,hz1,hz2⟩:=info_parts Tryz.info5;obtain ⟨HX,HCX,HLA,HO0⟩:=aG hx hcx hlast (World.ownsRow_nil w w.heap.size 5 1);have d0:((xs.length:Int)==0)=false:=beq_eq_false_iff_ne.2 (by omega);have HP:=hid hp;clear hx hcx hlast hp;go_enter func56,ntmps56
 go_wp2;go_loopw [3,4] (fun v ii wr=>∃ (i:Nat) (bs:List UInt8),i≤xs.length∧ii=.int .i64 i∧Hid (TOut xs bs i)∧Hid (wr.ownsRow w.heap.size 5 1 v bs.length (Lib.byteCells bs))∧Hid (Below w.heap.size w wr)) (fun _ ii _=>xs.length-(intOf ii).toNat)
 case atStart=>exact⟨0,[],Nat.zero_le _,rfl,TOut.zero HP.out,HO0,Below.refl _ _⟩
 case round =>
  obtain⟨i,bs,hi',rfl,hT,ho,hn⟩:=hrel;by_cases hlt:i<xs.length
  · have hcell:=(hn.out.cell (p:=⟨b,o+i,none⟩) hb).trans (HCX.out i hlt)
    have HS:=hid (TIn.start hT.out hlt);have hq0:=(TIn.start hT.out hlt).lt hlt HX.out;clear hT;generalize xs.getD i 0=x at *;go_wp2;obtain⟨wo,rfl⟩:∃ wo:World,wo=wr:=⟨_,rfl⟩;go_loopw [3,5,6] (fun v qq kk wr=>∃ (k q:Nat) (bs:List UInt8),k≤9∧q<1000000000∧kk=.int .i64 k∧qq=.int .u32 (q:Int)∧Hid (TIn xs bs i k q)∧Hid (wr.ownsRow w.heap.size 5 1 v bs.length (Lib.byteCells bs))∧Hid (Below w.heap.size w wr)) (fun _ _ kk _=>9-(intOf kk).toNat)
    case atStart=>exact⟨0,x,bs,by omega,hq0,rfl,rfl,HS,ho,hn⟩
    case round =>
        clear HS ho hn hcell hq0;obtain⟨k,q,bs,hk9,hq9,rfl,rfl,hI,ho,hn⟩:=hrel;have hbl:bs.length≤90009:=by have:=hI.out.len;omega
        have hq9':(q:Int)≤999999999:=by omega
        obtain⟨d,hd⟩:∃ d:Nat,d=q%10:=⟨_,rfl⟩;have hd10:d<10:=by omega
        have hmod:(q:Int)%10=(d:Int):=by omega
        have hd9:(d:Int)≤9:=by omega
        have w1:IntKind.u8.wrap (48+(d:Int))=48+(d:Int):=by rw[IntKind.wrap_u8];omega
        by_cases hg:k<9∧(i+1<xs.length∨0<q)
        · obtain⟨hk,hg⟩:=hg
          have HST:=hid (show TIn xs (bs++[UInt8.ofNat (48+d)]) i (k+1) (q / 10) by rw[hd];exact hI.out.step hlt HX.out hk hg);obtain ⟨Hd,Hd10⟩:=aF hd hd10;have k1:(k:Int)<9:=by omega
          clear hd hd10 hI;by_cases hl2:i+1<xs.length
          · have k2:(i:Int)+1<(xs.length:Int):=by omega
            clear hg;go_wp2_with (at_builtin;refine wpList_append_own _ rfl _ _ 104 rfl w.heap.size 5 i0 (.int .u8 0) 1 1 underlying104 hi hz0 hz1 hz2 rfl (by decide) _ _ _ rfl (ho.out.alloc _) ⟨wr.heap.size,0,none⟩ 1 1 [.int .u8 (48+(d:Int))] rfl rfl (cells_one _ _ _) (by intro u hu;simp at hu;subst hu;rfl) (by unfold maxLen;omega) (by omega) (by have:=hn.out.size;simp;omega) ?_)
            intro v' w1 hown' hgrow _;have HO:=hid (vN Hd10.out hown');have HN:=hid ((hn.out.alloc hn.out.size _).grown hgrow (by have:=hn.out.size;simp;omega) (fun k hk=>(ho.out.lt k hk).1));clear hown' hgrow;go_wp2;go_roundw
            case rel=>exact⟨k+1,q / 10,_,by omega,by omega,by go_num,jW (by omega),HST,HO,HN⟩
            case measure=>simp[intOf];omega
          · have k2:decide ((i:Int)+1<(xs.length:Int))=false:=decide_eq_false (by omega)
            have k3:0<(q:Int):=by omega
            clear hg;go_wp2_with (at_builtin;refine wpList_append_own _ rfl _ _ 104 rfl w.heap.size 5 i0 (.int .u8 0) 1 1 underlying104 hi hz0 hz1 hz2 rfl (by decide) _ _ _ rfl (ho.out.alloc _) ⟨wr.heap.size,0,none⟩ 1 1 [.int .u8 (48+(d:Int))] rfl rfl (cells_one _ _ _) (by intro u hu;simp at hu;subst hu;rfl) (by unfold maxLen;omega) (by omega) (by have:=hn.out.size;simp;omega) ?_)
            intro v' w1 hown' hgrow _;have HO:=hid (vN Hd10.out hown');have HN:=hid ((hn.out.alloc hn.out.size _).grown hgrow (by have:=hn.out.size;simp;omega) (fun k hk=>(ho.out.lt k hk).1));clear hown' hgrow;go_wp2;go_roundw
            case rel=>exact⟨k+1,q / 10,_,by omega,by omega,by go_num,jW (by omega),HST,HO,HN⟩
            case measure=>simp[intOf];omega
        · have HD:=hid (hI.out.done hlt HX.out HLA.out (by omega))
          clear hd hd10 hmod w1;by_cases hk:k<9
          · have k1:(k:Int)<9:=by omega
            have k2:decide ((i:Int)+1<(xs.length:Int))=false:=decide_eq_false (by omega);have k3:decide (0<(q:Int))=false:=decide_eq_false (by omega);have k4:decide (0<q)=false:=decide_eq_false (by omega);have k5:¬ 0<q:=by omega
            clear hg hI;go_wp2;go_roundw
            case rel=>exact⟨i+1,bs,by omega,by go_num,HD,ho,hn⟩
            case measure=>simp[intOf];omega
          · have k1:decide ((k:Int)<9)=false:=decide_eq_false (by omega)
            have k2:¬ (k:Int)<9:=by omega
            clear hg hI;go_wp2;go_roundw
            case rel=>exact⟨i+1,bs,by omega,by go_num,HD,ho,hn⟩
            case measure=>simp[intOf];omega
  · have hi2:i=xs.length:=by omega
    have hT':=hT.out;have hbl:=hT'.len HX.out;rw[hi2]at hT';obtain⟨hrev,hbp⟩:=hT'.done;obtain⟨g,cap,rfl,hg,hcm,hR⟩:=RowB.of_own ho.out hbp;obtain⟨n,hn0⟩:∃ n,n=bs.length:=⟨_,rfl⟩;have HR0:=hid (show RowB wr g cap (swp bs 0) by rw[z1w];exact hR);obtain ⟨Hg,HREV⟩:=aF hg hrev;rw[← hn0]at hbl hbp;have Hn0:=hid hn0;have k1:decide ((i:Int)<(xs.length:Int))=false:=decide_eq_false (by omega);rw[← hn0];clear hT hT' hrev ho hR hg hi2 hn0 hcm;go_wp2;obtain⟨wo,rfl⟩:∃ wo:World,wo=wr:=⟨_,rfl⟩;go_loopw [7,8] (fun ii kk wr=>∃ (i k:Nat),i+k+1=n∧ii=.int .i64 i∧kk=.int .i64 k∧Hid (RowB wr g cap (swp bs i))∧Hid (Below w.heap.size w wr)) (fun ii _ _=>n-(intOf ii).toNat)
    case atStart=>exact⟨0,n-1,by omega,rfl,jW (by omega),HR0,hn⟩
    case round =>
        clear HR0 hn;obtain⟨i,k,hik,rfl,rfl,hR,hn⟩:=hrel;have hnl:=Hn0.out;by_cases hlk:i<k
        · have hkk:bs.length-1-i=k:=by omega
          have hc1:=hR.out.cell (i:=i) (by rw[dI];omega);have hc2:=hR.out.cell (i:=k) (by rw[dI];omega);rw[z3J bs i (by omega)]at hc1;have hh:=z1y bs i (by omega);rw[hkk]at hh;rw[hh]at hc2;have hs:=z1x bs i (by omega);rw[hkk]at hs;have hf1:=hR.out.free i;have hf2:=hR.out.free k;obtain⟨x,hx⟩:∃ x,x=bs.getD i 0:=⟨_,rfl⟩;obtain⟨y,hy⟩:∃ y,y=bs.getD k 0:=⟨_,rfl⟩;rw[← hx]at hc1 hs;rw[← hy]at hc2 hs
          have HSET:=hid (show RowB (((wr.setCell ⟨g,i,none⟩ (.int .u8 (y.toNat:Int))).setCell ⟨g,k,none⟩ (.int .u8 (x.toNat:Int))).drew) g cap (swp bs (i+1)) by
           have h1:=(hR.out.set i y).set k x;rw[hs]at h1
           exact h1)
          have HB:=hid (((hn.out.setCell (p:=⟨g,i,none⟩) Hg.out (.int .u8 (y.toNat:Int))).setCell (p:=⟨g,k,none⟩) Hg.out (.int .u8 (x.toNat:Int))).drew);have hne:¬ i=k:=by omega
          have j1:(i:Int)<(k:Int):=by omega
          have j2:(k:Int)<(n:Int):=by omega
          have hc3:(wr.setCell ⟨g,i,none⟩ (.int .u8 (y.toNat:Int))).cell? ⟨g,k,none⟩=some (.int .u8 (y.toNat:Int)):=(World.cell?_setCell_other _ _ _ _ (by intro e;injection e with e1 e2;exact hne e2)).trans hc2;clear hx hy hs hh hkk hR hn hnl;generalize x.toNat=a at *;generalize y.toNat=b2 at *;go_wp2;go_region
          go_wp2;go_roundw
          case rel=>exact⟨i+1,k-1,by omega,by go_num,jW (by omega),HSET,HB⟩
          case measure=>simp[intOf];omega
        · have hsd:=z1z bs i (by omega)
          have hR':=hR.out;rw[hsd,HREV.out]at hR';have hdl:(Lib.decDigits (aj xs)).length=n:=by rw[← HREV.out,List.length_reverse];omega
          have hcv:(convert 104 9 (.slice (some ⟨g,0,none⟩) n cap)).run Tryz.prog wr=.ok (.string ⟨(Lib.decDigits (aj xs)).toArray⟩) wr:=by
           have h:=run_convert_bytes_back (P:=Tryz.prog) wr 104 9 5 ⟨g,0,none⟩ cap (Lib.decDigits (aj xs)) underlying104 underlying5 underlying9 (fun j hj=>by
            have h1:=hR'.cell hj;rw[Lib.add_plain,Nat.zero_add,h1]
            simp[List.getD,hj])
           rw[hdl]at h;exact h
          have k2:decide ((i:Int)<(k:Int))=false:=decide_eq_false (by omega);clear hsd hR hR' hdl hnl;go_wp2;go_ret
          exact⟨rfl,hn.out⟩
end Go.Proofs.YtodcdibanokjjaaGreatDoor
