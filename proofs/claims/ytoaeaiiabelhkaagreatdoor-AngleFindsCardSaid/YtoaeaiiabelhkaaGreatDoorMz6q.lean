/- texts -/
import Derived.Test.YtoaeaiiabelhkaaGreatDoorMz5q
import Derived.BigQuiet
open Go.Proofs.Tryz
set_option maxRecDepth 100000
set_option maxHeartbeats 20000000
open Go.Lib (hid)
namespace Go.Proofs.YtoaeaiiabelhkaaGreatDoor
open Go.RowKit Go.Gb
theorem below_drewN' {B:Nat}{a w:World}(h:Below B a w)(n:Nat):Below B a (w.drewN n):=h.trans ⟨rfl,rfl,rfl,Nat.le_refl _,fun _ _=>rfl⟩
theorem z4b (a1 a2:Option Addr)(n m c1 c2:Nat)(h:n≠m)(w:World) :
 Calls Tryz.prog 204 #[.slice a1 n c1,.slice a2 m c2] w fun e w'=>e=.returned (.bool (decide (n<m)))∧w=w':=by
 have hb:((n:Int) != (m:Int))=true:=bne_iff_ne.2 (by omega);by_cases hlt:n<m
 · go_enter func204,ntmps204
   go_wp2;go_ret
   exact⟨dA (by simp[hlt]),rfl⟩
 · go_enter func204,ntmps204
   go_wp2;go_ret
   exact⟨dA (by simp[hlt]),rfl⟩
def z2m (xs ys:List Nat) (k:Nat):Prop:=∀ j,k≤j→j<xs.length→xs.getD j 0=ys.getD j 0
theorem z2k (b1 o1 c1 b2 o2 c2:Nat)(xs ys:List Nat)(hxy:xs.length=ys.length)(hx:∀ x∈xs,x<BB)(hy:∀ y∈ys,y<BB)(hl:xs.length≤1000000)(w:World)
 (hcx:∀ i,i<xs.length→w.cell? ⟨b1,o1+i,none⟩=some (.int .u64 ((xs.getD i 0:Nat):Int)))
 (hcy:∀ i,i<ys.length→w.cell? ⟨b2,o2+i,none⟩=some (.int .u64 ((ys.getD i 0:Nat):Int))) :
 CR 204 #[.slice (some ⟨b1,o1,none⟩) xs.length c1,.slice (some ⟨b2,o2,none⟩) xs.length c2] w (.bool (decide (ai xs<ai ys))):=by
 obtain ⟨HXY,HX,HY,HCX,HCY⟩:=bz hxy hx hy hcx hcy;clear hxy hx hy hcx hcy;have hb:((xs.length:Int) != (xs.length:Int))=false:=by simp
 go_enter func204,ntmps204
 go_wp2;go_loopw [5] (fun ii wr=>∃ z:Int,-1≤z∧z<xs.length∧ii=.int .i64 z∧Hid (z2m xs ys (z+1).toNat)∧Hid (Below w.heap.size w wr)) (fun ii _=>(intOf ii+1).toNat)
 case atStart=>exact⟨(xs.length:Int)-1,by omega,by omega,rfl,fun j h1 h2=>absurd h1 (by omega),Below.refl _ _⟩
 case round =>
  obtain⟨z,hz1',hz8,rfl,he,hn⟩:=hrel;by_cases hz:0≤z
  · obtain⟨j,rfl⟩:=Int.eq_ofNat_of_zero_le hz
    have hb1:=World.block_lt_of_cell? _ _ (HCX.o j (by omega));have hb2:=World.block_lt_of_cell? _ _ (HCY.o j (by have:=HXY.o;omega));have hcx:=(hn.o.cell (p:=⟨b1,o1+j,none⟩) hb1).trans (HCX.o j (by omega));have hcy:=(hn.o.cell (p:=⟨b2,o2+j,none⟩) hb2).trans (HCY.o j (by have:=HXY.o;omega));have he':=he.o;rw[show((j:Int)+1).toNat=j+1 by omega]at he';have HE:=hid he';clear he' he;obtain⟨x,hxe⟩:∃ x,x=xs.getD j 0:=⟨_,rfl⟩;obtain⟨y,hye⟩:∃ y,y=ys.getD j 0:=⟨_,rfl⟩;rw[← hxe]at hcx;rw[← hye]at hcy;obtain ⟨HXE,HYE⟩:=aB hxe hye;clear hxe hye hb1 hb2;have i1:(0:Int)≤(j:Int):=by omega
    have i2:(j:Int)<(xs.length:Int):=by omega
    by_cases hxy:x=y
    · have hb':((x:Int) != (y:Int))=false:=by rw[bne_eq_false_iff_eq];omega
      have HXY2:=hid hxy;clear hxy;go_wp2;go_quiet (fail)
      have hn2:=hid (below_drewN' hn.o nq);go_wp2;go_roundw
      case rel=>exact⟨(j:Int)-1,by omega,by omega,rfl,(fun k h1 h2=>by
       by_cases hk:k=j
       · subst hk;rw[← HXE.o,← HYE.o,HXY2.o]
       · exact HE.o k (by omega) h2),hn2⟩
      case measure=>simp[intOf]
    · have hb':((x:Int) != (y:Int))=true:=by rw[bne_iff_ne];omega
      go_wp2;go_quiet (fail)
      go_wp2;have hn2:=below_drewN' hn.o nq;have hcx2:(wr.drewN nq).cell? ⟨b1,o1+j,none⟩=some (.int .u64 (x:Int)):=hcx;have hcy2:(wr.drewN nq).cell? ⟨b2,o2+j,none⟩=some (.int .u64 (y:Int)):=hcy;have HN2:=hid hn2;clear hcx hcy hn2;generalize wr.drewN nq=w2 at *;go_quiet (fail)
      have HN3:=hid (below_drewN' HN2.o nq);go_wp2;go_ret
      refine⟨dA ?_,HN3.o⟩;have hjl:j<xs.length:=by omega
      rcases Nat.lt_or_ge x y with hlt|hge
      · have hv:=jO HXY.o hjl HX.o (fun k h1 h2=>HE.o k (by omega) h2) (by rw[← HXE.o,← HYE.o];exact hlt)
        simp[hv];omega
      · have hv:=jO HXY.o.symm (by have:=HXY.o;omega) HY.o (fun k h1 h2=>(HE.o k (by omega) (by have:=HXY.o;omega)).symm) (show ys.getD j 0<xs.getD j 0 by rw[← HXE.o,← HYE.o];omega)
        have hnv:¬ ai xs<ai ys:=by omega
        simp[hnv];omega
  · have hz0':(z+1).toNat=0:=by omega
    have he':=he.o;rw[hz0']at he';have heq:=hid (o8 HXY.o (fun j hj=>he' j (by omega) hj));clear he' hz0';go_wp2;go_ret
    exact⟨dA (by rw[heq.o];simp),hn.o⟩
theorem z2l (a1 a2:Option Addr)(c1 c2:Nat)(w:World) :
 Calls Tryz.prog 204 #[.slice a1 0 c1,.slice a2 0 c2] w fun e w'=>e=.returned (.bool false)∧w=w':=by
 go_enter func204,ntmps204
 go_wp2;refine wp_loop_rounds 1 ?_;rw[rounds_succ];go_wp2;go_ret
 exact⟨rfl,rfl⟩
theorem aW {k:IntKind}{w:World}{v:Value}{xs:List Nat}(h:Rd k w v xs):∃ a c,v=.slice a xs.length c:=by
 rcases h with⟨rfl,rfl⟩|⟨b,o,c,rfl,_⟩
 · exact⟨none,0,rfl⟩
 · exact⟨_,c,rfl⟩
theorem dM {k:IntKind}{w:World}{v:Value}{xs:List Nat}(h:Rd k w v xs)(hp:0<xs.length):∃ b o c,v=.slice (some ⟨b,o,none⟩) xs.length c∧xs.length≤c∧c≤maxLen∧b<w.heap.size∧∀ i,i<xs.length→w.cell? ⟨b,o+i,none⟩=some (.int k ((xs.getD i 0:Nat):Int)):=by
 rcases h with⟨_,rfl⟩|h
 · simp at hp
 · exact h
theorem nz (v1 v2:Value)(a b:Nat)(hl:(ae a).length≤1000000)(w:World)(h1:Rd .u64 w v1 (ae a))(h2:Rd .u64 w v2 (ae b)) :
 CR 204 #[v1,v2] w (.bool (decide (a<b))):=by
 by_cases hne:(ae a).length=(ae b).length
 · by_cases h0:(ae a).length=0
   · have ha:a=0:=by have:=az a;rw[List.length_eq_zero_iff.1 h0]at this;exact this.symm
     have hb:b=0:=by have:=az b;rw[List.length_eq_zero_iff.1 (show(ae b).length=0 by omega)]at this;exact this.symm
     obtain⟨a1,c1,rfl⟩:=aW h1;obtain⟨a2,c2,rfl⟩:=aW h2;rw[← hne,h0];exact(z2l a1 a2 c1 c2 w).mono fun e w' ⟨g1,g2⟩=>⟨by rw[g1,ha,hb];rfl,g2▸Below.refl _ _⟩
   · obtain⟨b1,o1,c1,rfl,_,_,_,r1⟩:=dM h1 (by omega)
     obtain⟨b2,o2,c2,rfl,_,_,_,r2⟩:=dM h2 (by omega);have:=z2k b1 o1 c1 b2 o2 c2 (ae a) (ae b) hne (aR a) (aR b) hl w r1 r2;rw[az,az]at this;rw[← hne];exact this
 · obtain⟨a1,c1,rfl⟩:=aW h1
   obtain⟨a2,c2,rfl⟩:=aW h2;refine(z4b a1 a2 _ _ c1 c2 hne w).mono fun e w' ⟨g1,g2⟩=>⟨?_,g2▸Below.refl _ _⟩;rw[g1];refine dA ?_;rcases Nat.lt_or_ge (ae a).length (ae b).length with h|h
   · have:=ek h
     simp[h,this]
   · have:=ek (show(ae b).length<(ae a).length by omega)
     have h3:¬ (ae a).length<(ae b).length:=by omega
     have h4:¬ a<b:=by omega
     simp[h3,h4]
open Go.Lib (hid)
def Car (w:World) (g c:Nat):Prop:=w.heap[g]? = some (.cells #[.int .u64 ((c:Nat):Int)] 257 (0,0))
theorem Car.lt {w:World}{g c:Nat}(h:Car w g c):g<w.heap.size:=lt_of_block h
theorem Car.set {w:World}{g c:Nat}(h:Car w g c)(d:Nat):Car (w.setCell ⟨g,0,none⟩ (.int .u64 ((d:Nat):Int))) g d:=one_setCell h
theorem Car.other {w:World}{g c:Nat}(h:Car w g c){k:Nat}(hk:k≠g)(i:Nat)(v:Value):Car (w.setCell ⟨k,i,none⟩ v) g c:=by
 unfold Car at *
 rw[Below.heap_setCell _ _ _ _ (fun e=>hk e.symm)];exact h
theorem Blk.other {w:World}{g:Nat}{zs:List Nat}(h:Blk w g zs){k:Nat}(hk:k≠g)(i:Nat)(v:Value):Blk (w.setCell ⟨k,i,none⟩ v) g zs:=by
 unfold Blk at *
 rw[Below.heap_setCell _ _ _ _ (fun e=>hk e.symm)];exact h
theorem Blk.alloc {w:World}(zs:List Nat)(cs:Array Value)(h:cs=(cls .u64 zs).toArray):Blk (w.alloc (.cells cs 112)) w.heap.size zs:=by
 unfold Blk;rw[heap_alloc_new,h]
theorem iQ {a w:World}{row:Option Nat}(h:a.grownBy w row){k:Nat}(hk:a.heap.size≤k)(i:Nat)(v:Value):a.grownBy (w.setCell ⟨k,i,none⟩ v) row :=
 ⟨h.os,h.tape,h.output,by have:=h.size;simpa using this,fun j hj hr=>by rw[Below.heap_setCell _ _ _ _ (by simp;omega)];exact h.block j hj hr⟩
theorem zu (g x y c:Nat)(hx:x<1000000000)(hy:y<1000000000)(h:x+y+c<1000000000)(w:World)(hc:Car w g c) :
 Calls Tryz.prog 258 #[.pointer (some ⟨g,0,none⟩),.int .u64 (x:Int),.int .u64 (y:Int)] w fun e w'=>e=.returned (.int .u64 ((x+y+c:Nat):Int))∧w.setCell ⟨g,0,none⟩ (.int .u64 ((0:Nat):Int))=w':=by
 have hcell:=cell_of_one hc;have hfree:=free_of_one hc;have k1:(x:Int)≤999999999:=by omega
 have k2:(y:Int)≤999999999:=by omega
 have k3:(x:Int)+(y:Int)+(c:Int)<1000000000:=by omega
 clear hx hy h hc;go_enter func258,ntmps258
 go_wp2;go_ret
 exact⟨rfl,rfl⟩
theorem z2U (g x y c:Nat)(hx:x<1000000000)(hy:y<1000000000)(hc1:c≤1)(h:1000000000≤x+y+c)(w:World)(hc:Car w g c) :
 Calls Tryz.prog 258 #[.pointer (some ⟨g,0,none⟩),.int .u64 (x:Int),.int .u64 (y:Int)] w fun e w'=>e=.returned (.int .u64 ((x+y+c-1000000000:Nat):Int))∧w.setCell ⟨g,0,none⟩ (.int .u64 ((1:Nat):Int))=w':=by
 have hcell:=cell_of_one hc;have hfree:=free_of_one hc;have k1:(x:Int)≤999999999:=by omega
 have k2:(y:Int)≤999999999:=by omega
 have k3:¬ (x:Int)+(y:Int)+(c:Int)<1000000000:=by omega
 have k4:(c:Int)≤1:=by omega
 clear hx hy h hc1 hc;go_enter func258,ntmps258
 go_wp2;go_ret
 exact⟨dK (by omega),rfl⟩
theorem vQ (g x y c:Nat)(hx:x<1000000000)(hy:y<1000000000)(hc1:c≤1)(h:y+c≤x)(w:World)(hc:Car w g c) :
 Calls Tryz.prog 257 #[.pointer (some ⟨g,0,none⟩),.int .u64 (x:Int),.int .u64 (y:Int)] w fun e w'=>e=.returned (.int .u64 ((x-(y+c):Nat):Int))∧w.setCell ⟨g,0,none⟩ (.int .u64 ((0:Nat):Int))=w':=by
 have hcell:=cell_of_one hc;have hfree:=free_of_one hc;clear hc;go_enter func257,ntmps257
 go_wp2;go_ret
 exact⟨dK (by omega),rfl⟩
theorem z1e (g x y c:Nat)(hx:x<1000000000)(hy:y<1000000000)(hc1:c≤1)(h:x<y+c)(w:World)(hc:Car w g c) :
 Calls Tryz.prog 257 #[.pointer (some ⟨g,0,none⟩),.int .u64 (x:Int),.int .u64 (y:Int)] w fun e w'=>e=.returned (.int .u64 ((x+1000000000-(y+c):Nat):Int))∧w.setCell ⟨g,0,none⟩ (.int .u64 ((1:Nat):Int))=w':=by
 have hcell:=cell_of_one hc;have hfree:=free_of_one hc;clear hc;go_enter func257,ntmps257
 go_wp2;go_ret
 exact⟨dK (by omega),rfl⟩
structure StepOk (Inv:List Nat→List Nat→List Nat→Nat→Nat→Prop) (f g:Nat) (xs ys:List Nat):Prop where
 step:∀ (i:Nat) (os:List Nat) (c:Nat) (w:World),i<xs.length→Inv xs ys os i c→Car w g c →
  Calls Tryz.prog f #[.pointer (some ⟨g,0,none⟩),.int .u64 ((xs.getD i 0:Nat):Int),.int .u64 ((ys.getD i 0:Nat):Int)] w fun e w' =>
   ∃ r c':Nat,e=.returned (.int .u64 (r:Int))∧Inv xs ys (os++[r]) (i+1) c'∧w.setCell ⟨g,0,none⟩ (.int .u64 (c':Int))=w'
theorem getD_lt {xs:List Nat}(hx:∀ x∈xs,x<BB)(i:Nat):xs.getD i 0<BB:=by
 by_cases h:i<xs.length
 · exact hx _ (bf h)
 · have:xs.getD i 0=0:=by simp[List.getD,List.getElem?_eq_none (show xs.length≤i by omega)]
   rw[this];exact bN
theorem z13 (g:Nat)(xs ys:List Nat)(hx:∀ x∈xs,x<BB)(hy:∀ y∈ys,y<BB):StepOk dm 258 g xs ys:=⟨by
 intro i os c w hi hinv hc;have hB:=aG;have h1:=getD_lt hx i;have h2:=getD_lt hy i;by_cases hs:xs.getD i 0+ys.getD i 0+c<BB
 · exact(zu g _ _ c (by omega) (by omega) (by omega) w hc).mono fun e w' ⟨he,hw⟩=>⟨_,0,he,hinv.small hs,hw⟩
 · exact(z2U g _ _ c (by omega) (by omega) hinv.2.2.1 (by omega) w hc).mono fun e w' ⟨he,hw⟩=>⟨_,1,he,by rw[← hB];exact hinv.big h1 h2 (by omega),hw⟩⟩
theorem yt (g:Nat)(xs ys:List Nat)(hx:∀ x∈xs,x<BB)(hy:∀ y∈ys,y<BB):StepOk eF 257 g xs ys:=⟨by
 intro i os c w hi hinv hc;have hB:=aG;have h1:=getD_lt hx i;have h2:=getD_lt hy i;by_cases hs:ys.getD i 0+c≤xs.getD i 0
 · exact(vQ g _ _ c (by omega) (by omega) hinv.2.2.1 hs w hc).mono fun e w' ⟨he,hw⟩=>⟨_,0,he,hinv.small h1 hs,hw⟩
 · exact(z1e g _ _ c (by omega) (by omega) hinv.2.2.1 (by omega) w hc).mono fun e w' ⟨he,hw⟩=>⟨_,1,he,by rw[← hB];exact hinv.big h2 (by omega),hw⟩⟩
theorem fZ (n:Nat):madeCells #[Value.int .u64 0] n=(cls .u64 (List.replicate n 0)).toArray:=by
 have:=dO n;rw[← this]
theorem df {n i:Nat}(h:i<n):List.replicate (n+1-i) 0=(0:Nat) :: List.replicate (n+1-(i+1)) 0:=by
 rw[show n+1-i=(n+1-(i+1))+1 by omega,List.replicate_succ]
theorem oP (Inv:List Nat→List Nat→List Nat→Nat→Nat→Prop)(g:Nat)(b1 o1 c1:Nat)(b2 o2 c2:Nat)(xs ys:List Nat)(hl:xs.length≤100000)(w:World)
 (hstep:StepOk Inv 258 g xs ys) (h0:Inv xs ys [] 0 0) (hlen:∀ os i c,Inv xs ys os i c→os.length=i)
 (hcar:Car w g 0) (hb1:b1<w.heap.size) (hg1:b1≠g)
 (hcx:∀ i,i<xs.length→w.cell? ⟨b1,o1+i,none⟩=some (.int .u64 ((xs.getD i 0:Nat):Int))) (hb2:b2<w.heap.size) (hg2:b2≠g)
 (hcy:∀ i,i<ys.length→w.cell? ⟨b2,o2+i,none⟩=some (.int .u64 ((ys.getD i 0:Nat):Int))) :
 Calls Tryz.prog 256 #[.slice (some ⟨b1,o1,none⟩) xs.length c1,.slice (some ⟨b2,o2,none⟩) ys.length c2,.func (.func 258) #[.pointer (some ⟨g,0,none⟩)] #[]] w fun e w' =>
  e=.returned (.slice (some ⟨w.heap.size,0,none⟩) xs.length (xs.length+1))∧∃ (os:List Nat) (c:Nat),Inv xs ys os xs.length c∧Blk w' w.heap.size (os++[0])∧Car w' g c∧w.grownBy w' (some g):=by
 obtain⟨i0,hi,hz0,hz1,hz2⟩:=info_parts Tryz.info112;have hgs:=hcar.lt;have hgo:g≠w.heap.size:=by omega
 have hmk:∀ W,(Instr.makeSlice 167 (.int .i64 (xs.length:Int)) (.int .i64 ((xs.length:Int)+1))).run Tryz.prog W=.ok (.slice (some ⟨W.heap.size,0,none⟩) xs.length (xs.length+1)) (W.alloc (.cells (madeCells #[.int .u64 0] (xs.length+1)) 112)):=fun W=>by
  have h:=run_make (P:=Tryz.prog) W 167 112 i0 (.int .u64 0) underlying167 hi hz0 .i64 .i64 (xs.length:Int) ((xs.length:Int)+1) (by omega) (by omega) (by rw[hz2];omega) (by omega);rw[h,hz1,show((xs.length:Int)+1).toNat=xs.length+1 by omega,Nat.mul_one,Int.toNat_natCast];rfl
 have u6:=hid (Blk.alloc (w:=w) (List.replicate (xs.length+1) 0) _ (fZ _));have HC0:=hid (show Car (w.alloc (.cells (madeCells #[.int .u64 0] (xs.length+1)) 112)) g 0 from by unfold Car;rw[Below.heap_alloc _ _ _ hgs];exact hcar);obtain ⟨HSTEP,HCX,HL,H0,HCY⟩:=bz hstep hcx hlen h0 hcy;clear hstep hcar hcx hlen h0 hcy;go_enter func256,ntmps256
 go_wp2;go_loopw [19] (fun ii wr=>∃ (i c:Nat) (os:List Nat),i≤xs.length∧ii=.int .i64 i∧Hid (Inv xs ys os i c )∧Hid (Blk wr w.heap.size (os++List.replicate (xs.length+1-i) 0))∧Hid (Car wr g c)∧Hid (w.grownBy wr (some g))) (fun ii _=>xs.length-(intOf ii).toNat)
 case atStart=>exact⟨0,0,[],Nat.zero_le _,rfl,H0,u6,HC0,World.grownBy_alloc _ _ _⟩
 case round =>
  obtain⟨i,c,os,hi',rfl,hI,hB,hC,hG⟩:=hrel;clear hmk u6 HC0 H0;by_cases hlt:i<xs.length
  · have hcx':=(show wr.cell? ⟨b1,o1+i,none⟩=w.cell? ⟨b1,o1+i,none⟩from World.cell?_of_block (hG.o.block b1 hb1 (fun e=>hg1 (Option.some.inj e)))).trans (HCX.o i hlt)
    have HST:=hid (HSTEP.o.step i os c wr hlt hI.o hC.o);have hI:Hid (Inv xs ys os i c∧os.length=i):=hid ⟨hI.o,HL.o _ _ _ hI.o⟩;have hI:=hid (⟨hI.o.2,hI.o.1⟩:os.length=i∧Inv xs ys os i c);by_cases hy:i<ys.length
    · have hcy':=(show wr.cell? ⟨b2,o2+i,none⟩=w.cell? ⟨b2,o2+i,none⟩from World.cell?_of_block (hG.o.block b2 hb2 (fun e=>hg2 (Option.some.inj e)))).trans (HCY.o i hy)
      generalize xs.getD i 0=x at *;generalize ys.getD i 0=y at *;go_wp2_with fail
      refine HST.o.mono ?_;rintro e w1 ⟨r,c',rfl,hinv',rfl⟩;have hb1':=(hB.o.other hgo (k:=g) 0 (.int .u64 (c':Int)));rw[df hlt]at hb1';have hl1:=hI.o.1;have hcell1:=hb1'.cell (i:=os.length) (by simp);have hfree1:=hb1'.free os.length;have hset1:=hb1'.set os.length r;have e1:(os++0 :: List.replicate (xs.length+1-(i+1)) 0).getD os.length 0=0:=by simp[List.getD]
      have e2:(os++0 :: List.replicate (xs.length+1-(i+1)) 0).set os.length r=(os++[r])++List.replicate (xs.length+1-(i+1)) 0:=by simp
      rw[e1]at hcell1;rw[e2]at hset1;rw[hl1]at hcell1 hfree1 hset1;obtain ⟨HI',HS'⟩:=aB hinv' hset1;have HC':=hid ((hC.o.set c').other (show w.heap.size≠g by omega) i (.int .u64 (r:Int)));have HG':=hid (iQ (Lib.grownBy_setB hG.o 0 (.int .u64 (c':Int))) (k:=w.heap.size) (Nat.le_refl _) i (.int .u64 (r:Int)));clear hinv' hb1' hl1 hset1 e1 e2;go_wp2;go_roundw
      case rel=>exact⟨i+1,c',os++[r],by omega,by go_num,HI',HS',HC',HG'⟩
      case measure=>simp[intOf];omega
    · have hyz:ys.getD i 0=0:=by simp[List.getD,List.getElem?_eq_none (show ys.length≤i by omega)]
      rw[hyz]at HST;clear hyz;generalize xs.getD i 0=x at *;go_wp2_with fail
      refine HST.o.mono ?_;rintro e w1 ⟨r,c',rfl,hinv',rfl⟩;have hb1':=(hB.o.other hgo (k:=g) 0 (.int .u64 (c':Int)));rw[df hlt]at hb1';have hl1:=hI.o.1;have hcell1:=hb1'.cell (i:=os.length) (by simp);have hfree1:=hb1'.free os.length;have hset1:=hb1'.set os.length r;have e1:(os++0 :: List.replicate (xs.length+1-(i+1)) 0).getD os.length 0=0:=by simp[List.getD]
      have e2:(os++0 :: List.replicate (xs.length+1-(i+1)) 0).set os.length r=(os++[r])++List.replicate (xs.length+1-(i+1)) 0:=by simp
      rw[e1]at hcell1;rw[e2]at hset1;rw[hl1]at hcell1 hfree1 hset1;obtain ⟨HI',HS'⟩:=aB hinv' hset1;have HC':=hid ((hC.o.set c').other (show w.heap.size≠g by omega) i (.int .u64 (r:Int)));have HG':=hid (iQ (Lib.grownBy_setB hG.o 0 (.int .u64 (c':Int))) (k:=w.heap.size) (Nat.le_refl _) i (.int .u64 (r:Int)));clear hinv' hb1' hl1 hset1 e1 e2;go_wp2;go_roundw
      case rel=>exact⟨i+1,c',os++[r],by omega,by go_num,HI',HS',HC',HG'⟩
      case measure=>simp[intOf];omega
  · have hi2:i=xs.length:=by omega
    have hB':=hB.o;have hI':=hI.o;rw[hi2,show xs.length+1-xs.length=1 by omega]at hB';rw[hi2]at hI';obtain ⟨HB',HI'⟩:=aB hB' hI';clear hB' hI' hi2;go_wp2;go_ret
    exact⟨rfl,os,c,HI'.o,HB'.o,hC.o,hG.o⟩
theorem rF (Inv:List Nat→List Nat→List Nat→Nat→Nat→Prop)(g:Nat)(b1 o1 c1:Nat)(a2:Option Addr)(c2:Nat)(xs ys:List Nat)(hl:xs.length≤100000)(w:World)
 (hstep:StepOk Inv 258 g xs ys) (h0:Inv xs ys [] 0 0) (hlen:∀ os i c,Inv xs ys os i c→os.length=i)
 (hcar:Car w g 0) (hb1:b1<w.heap.size) (hg1:b1≠g)
 (hcx:∀ i,i<xs.length→w.cell? ⟨b1,o1+i,none⟩=some (.int .u64 ((xs.getD i 0:Nat):Int))) (hy0:ys.length≤0) :
 Calls Tryz.prog 256 #[.slice (some ⟨b1,o1,none⟩) xs.length c1,.slice a2 ys.length c2,.func (.func 258) #[.pointer (some ⟨g,0,none⟩)] #[]] w fun e w' =>
  e=.returned (.slice (some ⟨w.heap.size,0,none⟩) xs.length (xs.length+1))∧∃ (os:List Nat) (c:Nat),Inv xs ys os xs.length c∧Blk w' w.heap.size (os++[0])∧Car w' g c∧w.grownBy w' (some g):=by
 obtain⟨i0,hi,hz0,hz1,hz2⟩:=info_parts Tryz.info112;have hgs:=hcar.lt;have hgo:g≠w.heap.size:=by omega
 have hmk:∀ W,(Instr.makeSlice 167 (.int .i64 (xs.length:Int)) (.int .i64 ((xs.length:Int)+1))).run Tryz.prog W=.ok (.slice (some ⟨W.heap.size,0,none⟩) xs.length (xs.length+1)) (W.alloc (.cells (madeCells #[.int .u64 0] (xs.length+1)) 112)):=fun W=>by
  have h:=run_make (P:=Tryz.prog) W 167 112 i0 (.int .u64 0) underlying167 hi hz0 .i64 .i64 (xs.length:Int) ((xs.length:Int)+1) (by omega) (by omega) (by rw[hz2];omega) (by omega);rw[h,hz1,show((xs.length:Int)+1).toNat=xs.length+1 by omega,Nat.mul_one,Int.toNat_natCast];rfl
 have u6:=hid (Blk.alloc (w:=w) (List.replicate (xs.length+1) 0) _ (fZ _));have HC0:=hid (show Car (w.alloc (.cells (madeCells #[.int .u64 0] (xs.length+1)) 112)) g 0 from by unfold Car;rw[Below.heap_alloc _ _ _ hgs];exact hcar);obtain ⟨HSTEP,HCX,HL,H0⟩:=aN hstep hcx hlen h0;clear hstep hcar hcx hlen h0;go_enter func256,ntmps256
 go_wp2;go_loopw [19] (fun ii wr=>∃ (i c:Nat) (os:List Nat),i≤xs.length∧ii=.int .i64 i∧Hid (Inv xs ys os i c )∧Hid (Blk wr w.heap.size (os++List.replicate (xs.length+1-i) 0))∧Hid (Car wr g c)∧Hid (w.grownBy wr (some g))) (fun ii _=>xs.length-(intOf ii).toNat)
 case atStart=>exact⟨0,0,[],Nat.zero_le _,rfl,H0,u6,HC0,World.grownBy_alloc _ _ _⟩
 case round =>
  obtain⟨i,c,os,hi',rfl,hI,hB,hC,hG⟩:=hrel;clear hmk u6 HC0 H0;by_cases hlt:i<xs.length
  · have hcx':=(show wr.cell? ⟨b1,o1+i,none⟩=w.cell? ⟨b1,o1+i,none⟩from World.cell?_of_block (hG.o.block b1 hb1 (fun e=>hg1 (Option.some.inj e)))).trans (HCX.o i hlt)
    have HST:=hid (HSTEP.o.step i os c wr hlt hI.o hC.o);have hI:Hid (Inv xs ys os i c∧os.length=i):=hid ⟨hI.o,HL.o _ _ _ hI.o⟩;have hI:=hid (⟨hI.o.2,hI.o.1⟩:os.length=i∧Inv xs ys os i c);have hy:¬ i<ys.length:=by omega
    have hyz:ys.getD i 0=0:=by simp[List.getD,List.getElem?_eq_none (show ys.length≤i by omega)]
    rw[hyz]at HST;clear hyz;generalize xs.getD i 0=x at *;go_wp2_with fail
    refine HST.o.mono ?_;rintro e w1 ⟨r,c',rfl,hinv',rfl⟩;have hb1':=(hB.o.other hgo (k:=g) 0 (.int .u64 (c':Int)));rw[df hlt]at hb1';have hl1:=hI.o.1;have hcell1:=hb1'.cell (i:=os.length) (by simp);have hfree1:=hb1'.free os.length;have hset1:=hb1'.set os.length r;have e1:(os++0 :: List.replicate (xs.length+1-(i+1)) 0).getD os.length 0=0:=by simp[List.getD]
    have e2:(os++0 :: List.replicate (xs.length+1-(i+1)) 0).set os.length r=(os++[r])++List.replicate (xs.length+1-(i+1)) 0:=by simp
    rw[e1]at hcell1;rw[e2]at hset1;rw[hl1]at hcell1 hfree1 hset1;obtain ⟨HI',HS'⟩:=aB hinv' hset1;have HC':=hid ((hC.o.set c').other (show w.heap.size≠g by omega) i (.int .u64 (r:Int)));have HG':=hid (iQ (Lib.grownBy_setB hG.o 0 (.int .u64 (c':Int))) (k:=w.heap.size) (Nat.le_refl _) i (.int .u64 (r:Int)));clear hinv' hb1' hl1 hset1 e1 e2;go_wp2;go_roundw
    case rel=>exact⟨i+1,c',os++[r],by omega,by go_num,HI',HS',HC',HG'⟩
    case measure=>simp[intOf];omega
  · have hi2:i=xs.length:=by omega
    have hB':=hB.o;have hI':=hI.o;rw[hi2,show xs.length+1-xs.length=1 by omega]at hB';rw[hi2]at hI';obtain ⟨HB',HI'⟩:=aB hB' hI';clear hB' hI' hi2;go_wp2;go_ret
    exact⟨rfl,os,c,HI'.o,HB'.o,hC.o,hG.o⟩
theorem nU (Inv:List Nat→List Nat→List Nat→Nat→Nat→Prop)(g:Nat)(b1 o1 c1:Nat)(b2 o2 c2:Nat)(xs ys:List Nat)(hl:xs.length≤100000)(w:World)
 (hstep:StepOk Inv 257 g xs ys) (h0:Inv xs ys [] 0 0) (hlen:∀ os i c,Inv xs ys os i c→os.length=i)
 (hcar:Car w g 0) (hb1:b1<w.heap.size) (hg1:b1≠g)
 (hcx:∀ i,i<xs.length→w.cell? ⟨b1,o1+i,none⟩=some (.int .u64 ((xs.getD i 0:Nat):Int))) (hb2:b2<w.heap.size) (hg2:b2≠g)
 (hcy:∀ i,i<ys.length→w.cell? ⟨b2,o2+i,none⟩=some (.int .u64 ((ys.getD i 0:Nat):Int))) :
 Calls Tryz.prog 256 #[.slice (some ⟨b1,o1,none⟩) xs.length c1,.slice (some ⟨b2,o2,none⟩) ys.length c2,.func (.func 257) #[.pointer (some ⟨g,0,none⟩)] #[]] w fun e w' =>
  e=.returned (.slice (some ⟨w.heap.size,0,none⟩) xs.length (xs.length+1))∧∃ (os:List Nat) (c:Nat),Inv xs ys os xs.length c∧Blk w' w.heap.size (os++[0])∧Car w' g c∧w.grownBy w' (some g):=by
 obtain⟨i0,hi,hz0,hz1,hz2⟩:=info_parts Tryz.info112;have hgs:=hcar.lt;have hgo:g≠w.heap.size:=by omega
 have hmk:∀ W,(Instr.makeSlice 167 (.int .i64 (xs.length:Int)) (.int .i64 ((xs.length:Int)+1))).run Tryz.prog W=.ok (.slice (some ⟨W.heap.size,0,none⟩) xs.length (xs.length+1)) (W.alloc (.cells (madeCells #[.int .u64 0] (xs.length+1)) 112)):=fun W=>by
  have h:=run_make (P:=Tryz.prog) W 167 112 i0 (.int .u64 0) underlying167 hi hz0 .i64 .i64 (xs.length:Int) ((xs.length:Int)+1) (by omega) (by omega) (by rw[hz2];omega) (by omega);rw[h,hz1,show((xs.length:Int)+1).toNat=xs.length+1 by omega,Nat.mul_one,Int.toNat_natCast];rfl
 have u6:=hid (Blk.alloc (w:=w) (List.replicate (xs.length+1) 0) _ (fZ _));have HC0:=hid (show Car (w.alloc (.cells (madeCells #[.int .u64 0] (xs.length+1)) 112)) g 0 from by unfold Car;rw[Below.heap_alloc _ _ _ hgs];exact hcar);obtain ⟨HSTEP,HCX,HL,H0,HCY⟩:=bz hstep hcx hlen h0 hcy;clear hstep hcar hcx hlen h0 hcy;go_enter func256,ntmps256
 go_wp2;go_loopw [19] (fun ii wr=>∃ (i c:Nat) (os:List Nat),i≤xs.length∧ii=.int .i64 i∧Hid (Inv xs ys os i c )∧Hid (Blk wr w.heap.size (os++List.replicate (xs.length+1-i) 0))∧Hid (Car wr g c)∧Hid (w.grownBy wr (some g))) (fun ii _=>xs.length-(intOf ii).toNat)
 case atStart=>exact⟨0,0,[],Nat.zero_le _,rfl,H0,u6,HC0,World.grownBy_alloc _ _ _⟩
 case round =>
  obtain⟨i,c,os,hi',rfl,hI,hB,hC,hG⟩:=hrel;clear hmk u6 HC0 H0;by_cases hlt:i<xs.length
  · have hcx':=(show wr.cell? ⟨b1,o1+i,none⟩=w.cell? ⟨b1,o1+i,none⟩from World.cell?_of_block (hG.o.block b1 hb1 (fun e=>hg1 (Option.some.inj e)))).trans (HCX.o i hlt)
    have HST:=hid (HSTEP.o.step i os c wr hlt hI.o hC.o);have hI:Hid (Inv xs ys os i c∧os.length=i):=hid ⟨hI.o,HL.o _ _ _ hI.o⟩;have hI:=hid (⟨hI.o.2,hI.o.1⟩:os.length=i∧Inv xs ys os i c);by_cases hy:i<ys.length
    · have hcy':=(show wr.cell? ⟨b2,o2+i,none⟩=w.cell? ⟨b2,o2+i,none⟩from World.cell?_of_block (hG.o.block b2 hb2 (fun e=>hg2 (Option.some.inj e)))).trans (HCY.o i hy)
      generalize xs.getD i 0=x at *;generalize ys.getD i 0=y at *;go_wp2_with fail
      refine HST.o.mono ?_;rintro e w1 ⟨r,c',rfl,hinv',rfl⟩;have hb1':=(hB.o.other hgo (k:=g) 0 (.int .u64 (c':Int)));rw[df hlt]at hb1';have hl1:=hI.o.1;have hcell1:=hb1'.cell (i:=os.length) (by simp);have hfree1:=hb1'.free os.length;have hset1:=hb1'.set os.length r;have e1:(os++0 :: List.replicate (xs.length+1-(i+1)) 0).getD os.length 0=0:=by simp[List.getD]
      have e2:(os++0 :: List.replicate (xs.length+1-(i+1)) 0).set os.length r=(os++[r])++List.replicate (xs.length+1-(i+1)) 0:=by simp
      rw[e1]at hcell1;rw[e2]at hset1;rw[hl1]at hcell1 hfree1 hset1;obtain ⟨HI',HS'⟩:=aB hinv' hset1;have HC':=hid ((hC.o.set c').other (show w.heap.size≠g by omega) i (.int .u64 (r:Int)));have HG':=hid (iQ (Lib.grownBy_setB hG.o 0 (.int .u64 (c':Int))) (k:=w.heap.size) (Nat.le_refl _) i (.int .u64 (r:Int)));clear hinv' hb1' hl1 hset1 e1 e2;go_wp2;go_roundw
      case rel=>exact⟨i+1,c',os++[r],by omega,by go_num,HI',HS',HC',HG'⟩
      case measure=>simp[intOf];omega
    · have hyz:ys.getD i 0=0:=by simp[List.getD,List.getElem?_eq_none (show ys.length≤i by omega)]
      rw[hyz]at HST;clear hyz;generalize xs.getD i 0=x at *;go_wp2_with fail
      refine HST.o.mono ?_;rintro e w1 ⟨r,c',rfl,hinv',rfl⟩;have hb1':=(hB.o.other hgo (k:=g) 0 (.int .u64 (c':Int)));rw[df hlt]at hb1';have hl1:=hI.o.1;have hcell1:=hb1'.cell (i:=os.length) (by simp);have hfree1:=hb1'.free os.length;have hset1:=hb1'.set os.length r;have e1:(os++0 :: List.replicate (xs.length+1-(i+1)) 0).getD os.length 0=0:=by simp[List.getD]
      have e2:(os++0 :: List.replicate (xs.length+1-(i+1)) 0).set os.length r=(os++[r])++List.replicate (xs.length+1-(i+1)) 0:=by simp
      rw[e1]at hcell1;rw[e2]at hset1;rw[hl1]at hcell1 hfree1 hset1;obtain ⟨HI',HS'⟩:=aB hinv' hset1;have HC':=hid ((hC.o.set c').other (show w.heap.size≠g by omega) i (.int .u64 (r:Int)));have HG':=hid (iQ (Lib.grownBy_setB hG.o 0 (.int .u64 (c':Int))) (k:=w.heap.size) (Nat.le_refl _) i (.int .u64 (r:Int)));clear hinv' hb1' hl1 hset1 e1 e2;go_wp2;go_roundw
      case rel=>exact⟨i+1,c',os++[r],by omega,by go_num,HI',HS',HC',HG'⟩
      case measure=>simp[intOf];omega
  · have hi2:i=xs.length:=by omega
    have hB':=hB.o;have hI':=hI.o;rw[hi2,show xs.length+1-xs.length=1 by omega]at hB';rw[hi2]at hI';obtain ⟨HB',HI'⟩:=aB hB' hI';clear hB' hI' hi2;go_wp2;go_ret
    exact⟨rfl,os,c,HI'.o,HB'.o,hC.o,hG.o⟩
theorem oQ (Inv:List Nat→List Nat→List Nat→Nat→Nat→Prop)(g:Nat)(b1 o1 c1:Nat)(a2:Option Addr)(c2:Nat)(xs ys:List Nat)(hl:xs.length≤100000)(w:World)
 (hstep:StepOk Inv 257 g xs ys) (h0:Inv xs ys [] 0 0) (hlen:∀ os i c,Inv xs ys os i c→os.length=i)
 (hcar:Car w g 0) (hb1:b1<w.heap.size) (hg1:b1≠g)
 (hcx:∀ i,i<xs.length→w.cell? ⟨b1,o1+i,none⟩=some (.int .u64 ((xs.getD i 0:Nat):Int))) (hy0:ys.length≤0) :
 Calls Tryz.prog 256 #[.slice (some ⟨b1,o1,none⟩) xs.length c1,.slice a2 ys.length c2,.func (.func 257) #[.pointer (some ⟨g,0,none⟩)] #[]] w fun e w' =>
  e=.returned (.slice (some ⟨w.heap.size,0,none⟩) xs.length (xs.length+1))∧∃ (os:List Nat) (c:Nat),Inv xs ys os xs.length c∧Blk w' w.heap.size (os++[0])∧Car w' g c∧w.grownBy w' (some g):=by
 obtain⟨i0,hi,hz0,hz1,hz2⟩:=info_parts Tryz.info112;have hgs:=hcar.lt;have hgo:g≠w.heap.size:=by omega
 have hmk:∀ W,(Instr.makeSlice 167 (.int .i64 (xs.length:Int)) (.int .i64 ((xs.length:Int)+1))).run Tryz.prog W=.ok (.slice (some ⟨W.heap.size,0,none⟩) xs.length (xs.length+1)) (W.alloc (.cells (madeCells #[.int .u64 0] (xs.length+1)) 112)):=fun W=>by
  have h:=run_make (P:=Tryz.prog) W 167 112 i0 (.int .u64 0) underlying167 hi hz0 .i64 .i64 (xs.length:Int) ((xs.length:Int)+1) (by omega) (by omega) (by rw[hz2];omega) (by omega);rw[h,hz1,show((xs.length:Int)+1).toNat=xs.length+1 by omega,Nat.mul_one,Int.toNat_natCast];rfl
 have u6:=hid (Blk.alloc (w:=w) (List.replicate (xs.length+1) 0) _ (fZ _));have HC0:=hid (show Car (w.alloc (.cells (madeCells #[.int .u64 0] (xs.length+1)) 112)) g 0 from by unfold Car;rw[Below.heap_alloc _ _ _ hgs];exact hcar);obtain ⟨HSTEP,HCX,HL,H0⟩:=aN hstep hcx hlen h0;clear hstep hcar hcx hlen h0;go_enter func256,ntmps256
 go_wp2;go_loopw [19] (fun ii wr=>∃ (i c:Nat) (os:List Nat),i≤xs.length∧ii=.int .i64 i∧Hid (Inv xs ys os i c )∧Hid (Blk wr w.heap.size (os++List.replicate (xs.length+1-i) 0))∧Hid (Car wr g c)∧Hid (w.grownBy wr (some g))) (fun ii _=>xs.length-(intOf ii).toNat)
 case atStart=>exact⟨0,0,[],Nat.zero_le _,rfl,H0,u6,HC0,World.grownBy_alloc _ _ _⟩
 case round =>
  obtain⟨i,c,os,hi',rfl,hI,hB,hC,hG⟩:=hrel;clear hmk u6 HC0 H0;by_cases hlt:i<xs.length
  · have hcx':=(show wr.cell? ⟨b1,o1+i,none⟩=w.cell? ⟨b1,o1+i,none⟩from World.cell?_of_block (hG.o.block b1 hb1 (fun e=>hg1 (Option.some.inj e)))).trans (HCX.o i hlt)
    have HST:=hid (HSTEP.o.step i os c wr hlt hI.o hC.o);have hI:Hid (Inv xs ys os i c∧os.length=i):=hid ⟨hI.o,HL.o _ _ _ hI.o⟩;have hI:=hid (⟨hI.o.2,hI.o.1⟩:os.length=i∧Inv xs ys os i c);have hy:¬ i<ys.length:=by omega
    have hyz:ys.getD i 0=0:=by simp[List.getD,List.getElem?_eq_none (show ys.length≤i by omega)]
    rw[hyz]at HST;clear hyz;generalize xs.getD i 0=x at *;go_wp2_with fail
    refine HST.o.mono ?_;rintro e w1 ⟨r,c',rfl,hinv',rfl⟩;have hb1':=(hB.o.other hgo (k:=g) 0 (.int .u64 (c':Int)));rw[df hlt]at hb1';have hl1:=hI.o.1;have hcell1:=hb1'.cell (i:=os.length) (by simp);have hfree1:=hb1'.free os.length;have hset1:=hb1'.set os.length r;have e1:(os++0 :: List.replicate (xs.length+1-(i+1)) 0).getD os.length 0=0:=by simp[List.getD]
    have e2:(os++0 :: List.replicate (xs.length+1-(i+1)) 0).set os.length r=(os++[r])++List.replicate (xs.length+1-(i+1)) 0:=by simp
    rw[e1]at hcell1;rw[e2]at hset1;rw[hl1]at hcell1 hfree1 hset1;obtain ⟨HI',HS'⟩:=aB hinv' hset1;have HC':=hid ((hC.o.set c').other (show w.heap.size≠g by omega) i (.int .u64 (r:Int)));have HG':=hid (iQ (Lib.grownBy_setB hG.o 0 (.int .u64 (c':Int))) (k:=w.heap.size) (Nat.le_refl _) i (.int .u64 (r:Int)));clear hinv' hb1' hl1 hset1 e1 e2;go_wp2;go_roundw
    case rel=>exact⟨i+1,c',os++[r],by omega,by go_num,HI',HS',HC',HG'⟩
    case measure=>simp[intOf];omega
  · have hi2:i=xs.length:=by omega
    have hB':=hB.o;have hI':=hI.o;rw[hi2,show xs.length+1-xs.length=1 by omega]at hB';rw[hi2]at hI';obtain ⟨HB',HI'⟩:=aB hB' hI';clear hB' hI' hi2;go_wp2;go_ret
    exact⟨rfl,os,c,HI'.o,HB'.o,hC.o,hG.o⟩
end Go.Proofs.YtoaeaiiabelhkaaGreatDoor
open Go.Lib (hid)
namespace Go.Proofs.YtoaeaiiabelhkaaGreatDoor
open Go.RowKit Go.Gb
def sO (xs os:List Nat) (d i r:Nat):Prop:=os.length=xs.length-i∧(∀ x∈os,x<BB)∧r<d∧ai (xs.drop i)=ai os*d+r
theorem sO.start (xs:List Nat){d:Nat}(hd:0<d):sO xs [] d xs.length 0:=⟨by simp,by simp,hd,by rw[List.drop_of_length_le (Nat.le_refl _)];simp[ai]⟩
theorem sO.step {xs os:List Nat}{d i r:Nat}(h:sO xs os d (i+1) r)(hi:i<xs.length)(hx:∀ x∈xs,x<BB):sO xs ((r*BB+xs.getD i 0) / d :: os) d i ((r*BB+xs.getD i 0)%d):=by
 obtain⟨h1,h2,h3,h4⟩:=h;have hw:=hx _ (bf hi);obtain⟨g1,g2⟩:=z3w (xs.getD i 0) h4 h3;refine⟨by simp[h1];omega,?_,g2,?_⟩
 · intro x hm
   rcases List.mem_cons.1 hm with hm|hm
   · rw[hm];exact o9 h3 hw
   · exact h2 x hm
 · rw[fJ hi,g1,ai,Nat.add_comm (BB*ai os)]
theorem mE {v:Value}{k:IntKind}{a b:Int}(h:a=b):Ending.returned (.tuple #[v,.int k a])=.returned (.tuple #[v,.int k b]):=by rw[h]
theorem iN (j:Nat):List.replicate (j+1) (0:Nat)=List.replicate j 0++[0]:=by rw[List.replicate_succ']
theorem uF (b1 o1 c1:Nat)(xs:List Nat)(d:Nat)(hd:0<d)(hdB:d≤1000000000)(hx:∀ x∈xs,x<BB)(hl:xs.length≤100000)(w:World)(hb1:b1<w.heap.size)
 (hcx:∀ i,i<xs.length→w.cell? ⟨b1,o1+i,none⟩=some (.int .u64 ((xs.getD i 0:Nat):Int))) :
 Calls Tryz.prog 244 #[.slice (some ⟨b1,o1,none⟩) xs.length c1,.int .u64 (d:Int)] w fun e w' =>
  ∃ v,e=.returned (.tuple #[v,.int .u64 ((ai xs%d:Nat):Int)])∧Gb.Own .u64 112 w.heap.size w' v (ae (ai xs / d))∧Below w.heap.size w w':=by
 obtain⟨i0,hi,hz0,hz1,hz2⟩:=info_parts Tryz.info112;have HX:=hid hx;have HCX:=hid hcx;have hd1:(1:Int)≤(d:Int):=by omega
 have hd2:(d:Int)≤1000000000:=by omega
 have hdz:((d:Int)==0)=false:=beq_eq_false_iff_ne.2 (by omega);have HD:=hid hd;have HDB:=hid hdB;clear hx hcx hd hdB;go_enter func244,ntmps244
 go_wp2_with (at_make;refine wpList_make_full _ rfl _ _ 167 rfl w.heap.size 112 i0 (.int .u64 0) 1 underlying167 hi hz0 hz1 _ _ _ _ xs.length rfl rfl (by omega) (by omega) ?b2 ?b3 (Nat.le_refl _) ?_)
 case b2=>rw[hz2];omega
 case b3=>unfold maxLen;omega
 intro w0 hown0 hgrow0;have u6:=hid (show Blk w0 w.heap.size (List.replicate xs.length 0) from Blk.of_made hown0 (dO _));have HN0:=hid ((Below.refl w.heap.size w).grown hgrow0 (Nat.le_refl _) (fun k h=>by cases h));clear hown0 hgrow0;go_wp2;go_loopw [7,8] (fun rr ii wr=>∃ (z:Int) (r:Nat) (os:List Nat),-1≤z∧z<xs.length∧ii=.int .i64 z∧rr=.int .u64 (r:Int)∧Hid (sO xs os d (z+1).toNat r)∧Hid (Blk wr w.heap.size (List.replicate (z+1).toNat 0++os))∧Hid (Below w.heap.size w wr)) (fun _ ii _=>(intOf ii+1).toNat)
 case atStart=>exact⟨(xs.length:Int)-1,0,[],by omega,by omega,rfl,rfl,by rw[show((xs.length:Int)-1+1).toNat=xs.length by omega];exact sO.start xs HD.o,by rw[show((xs.length:Int)-1+1).toNat=xs.length by omega,List.append_nil];exact u6,HN0⟩
 case round =>
  obtain⟨z,r,os,hz1',hz8,rfl,rfl,hI,hB,hn⟩:=hrel;by_cases hz:0≤z
  · obtain⟨j,rfl⟩:=Int.eq_ofNat_of_zero_le hz
    have hj:j<xs.length:=by omega
    have hI':=hI.o;have hB':=hB.o;rw[show((j:Int)+1).toNat=j+1 by omega]at hI' hB';have hcx:=(hn.o.cell (p:=⟨b1,o1+j,none⟩) hb1).trans (HCX.o j hj);have hxw:=HX.o _ (bf hj);have hst:=hI'.step hj HX.o;have hr:=hI'.2.2.1;rw[iN,List.append_assoc]at hB';have e1:(List.replicate j 0++([0]++os)).getD j 0=0:=by simp[List.getD]
    have hcell:=hB'.cell (i:=j) (by simp);have hfree:=hB'.free j;have hset:=hB'.set j ((r*BB+xs.getD j 0) / d);have e2:(List.replicate j 0++([0]++os)).set j ((r*BB+xs.getD j 0) / d)=List.replicate j 0++((r*BB+xs.getD j 0) / d :: os):=by simp
    rw[e1]at hcell;rw[e2]at hset;have hbel:=hn.o.setCell (p:=⟨w.heap.size,j,none⟩) (Nat.le_refl _) (.int .u64 (((r*BB+xs.getD j 0) / d:Nat):Int));obtain ⟨HS,HI,HBL⟩:=ak hset hst hbel;clear hI' hB' hst e1 e2 hset hbel hI hB hn;generalize xs.getD j 0=x at *;rw[aG]at hxw;have hr2:r<1000000000:=by have:=HDB.o;omega
    have hq:((r:Int)*1000000000+(x:Int)) / (d:Int)=(((r*BB+x) / d:Nat):Int):=by rw[aG];rfl
    have hm:((r:Int)*1000000000+(x:Int))%(d:Int)=(((r*BB+x)%d:Nat):Int):=by rw[aG];rfl
    obtain ⟨HQ,HM⟩:=aB hq hm;have k1:(x:Int)≤999999999:=by omega
    have k2:(r:Int)≤999999999:=by omega
    clear hq hm hxw hr hr2;go_wp2;go_roundw
    case rel=>exact⟨(j:Int)-1,(r*BB+x)%d,(r*BB+x) / d :: os,by omega,by omega,rfl,by rw[← HM.o],by rw[show((j:Int)-1+1).toNat=j by omega];exact HI,by rw[show((j:Int)-1+1).toNat=j by omega,HQ.o];exact HS,by rw[HQ.o];exact HBL⟩
    case measure=>simp[intOf]
  · have hz0':(z+1).toNat=0:=by omega
    have hI':=hI.o;have hB':=hB.o;rw[hz0']at hI' hB';obtain⟨g1,g2,g3,g4⟩:=hI';rw[List.drop_zero]at g4;rw[List.replicate_zero,List.nil_append]at hB';have hown:=Blk.own hB' (Nat.le_refl _) (by unfold maxLen;omega) os.length (Nat.le_refl _);rw[List.take_of_length_le (Nat.le_refl _)]at hown;have hq:ai os=ai xs / d:=by rw[g4,Nat.add_comm,Nat.add_mul_div_right _ _ HD.o,Nat.div_eq_of_lt g3,Nat.zero_add]
    have hm:r=ai xs%d:=by rw[g4,Nat.add_comm,Nat.add_mul_mod_self_right,Nat.mod_eq_of_lt g3]
    have htr:=fC 112 w.heap.size _ os g2 wr hown;rw[g1,Nat.sub_zero,hq]at htr;obtain ⟨HTR,HM⟩:=aB htr hm;clear g1 g2 g3 g4 hB' hown hq htr hz0' hm;go_wp2_with fail
    refine HTR.o.mono ?_;rintro e w2 ⟨v',rfl,hown,rfl⟩;go_wp2;go_ret2
    exact⟨v',mE (by rw[HM.o]),hown,hn.o⟩
theorem z0c (b o c:Nat)(xs:List Nat)(hl:xs.length≤100000)(w:World)(hb:b<w.heap.size)
 (hcx:∀ i,i<xs.length→w.cell? ⟨b,o+i,none⟩=some (.int .u64 ((xs.getD i 0:Nat):Int))) :
 Calls Tryz.prog 177 #[.slice (some ⟨b,o,none⟩) xs.length c] w fun e w'=>∃ v,e=.returned v∧Gb.Own .u64 112 w.heap.size w' v xs∧Below w.heap.size w w':=by
 obtain⟨i0,hi,hz0,hz1,hz2⟩:=info_parts Tryz.info112;have HCX:=hid hcx;clear hcx;have hne:∀ W,(binOp .eql 167 (.slice (some ⟨b,o,none⟩) xs.length c) (.slice none 0 0)).run Tryz.prog W=.ok (.bool false) W:=fun W=>Lib.run_eql_slice_nil (P:=Tryz.prog) W 167 112 (some ⟨b,o,none⟩) xs.length c 0 0 underlying167;have hown:(w.alloc (.cells #[] 112)).ownsRow w.heap.size 112 1 (.slice (some ⟨w.heap.size,0,none⟩) 0 0) 0 []:=World.ownsRow_made w #[] 0 (Nat.le_refl _) (by unfold maxLen;omega) rfl;have HO:=hid hown
 have hnews:∀ j u,(cls .u64 xs)[j]? = some u→(w.alloc (.cells #[] 112)).cell? ((⟨b,o,none⟩:Addr).add j)=some u:=by
  intro j u hj
  have hjl:j<xs.length:=by
   have:=(List.getElem?_eq_some_iff.1 hj).1;rwa [eD]at this
  rw[Lib.add_plain,World.cell?_alloc_lt _ _ _ hb,HCX.o j hjl,← hj,jF hjl]
 have HN:=hid hnews;clear hown hnews;go_enter func177,ntmps177
 go_wp2_with (at_builtin;refine wpList_append_own _ rfl _ _ 167 rfl w.heap.size 112 i0 (.int .u64 0) 1 8 underlying167 hi hz0 hz1 hz2 rfl (by decide) _ _ _ rfl HO.o ⟨b,o,none⟩ xs.length c (cls .u64 xs) rfl (by rw[eD,Nat.mul_one]) HN.o ?h1 (by unfold maxLen;omega) (by omega) (by simp) ?_)
 case h1=>intro u hu;obtain⟨n,_,rfl⟩:=List.mem_map.1 hu;rfl
 intro v' w1 hown' hgrow _;have hb2:=hid (((Below.refl w.heap.size w).alloc (Nat.le_refl _) (.cells #[] 112)).grown hgrow (by simp) (fun k hk=>by cases hk;exact Nat.le_refl _));have HO':=hid hown';clear hown' hgrow hne;go_wp2;go_ret
 exact⟨v',rfl,HO'.o,hb2.o⟩
theorem z0d (w:World):Calls Tryz.prog 177 #[.slice none 0 0] w fun e w'=>e=.returned (.slice none 0 0)∧w=w':=by
 have hne:∀ W,(binOp .eql 167 (.slice none 0 0) (.slice none 0 0)).run Tryz.prog W=.ok (.bool true) W:=fun W=>Lib.run_eql_slice_nil (P:=Tryz.prog) W 167 112 none 0 0 0 0 underlying167;go_enter func177,ntmps177
 go_wp2_with fail
 go_ret
 exact⟨rfl,rfl⟩
theorem oJ (v:Value)(xs:List Nat)(hl:xs.length≤100000)(w:World)(h:Rd .u64 w v xs) :
 Calls Tryz.prog 177 #[v] w fun e w'=>∃ v',e=.returned v'∧Gb.Own .u64 112 w.heap.size w' v' xs∧Below w.heap.size w w':=by
 rcases h with⟨rfl,rfl⟩|⟨b,o,c,rfl,_,_,hb,hc⟩
 · exact(z0d w).mono fun e w' ⟨h1,h2⟩=>⟨_,h1,Gb.Own.nil _ _ _ _,h2▸Below.refl _ _⟩
 · exact z0c b o c xs hl w hb hc
theorem xn (v1 v2:Value)(a b:Nat)(hab:a<b)(hl:(ae a).length≤100000)(w:World)(h1:Rd .u64 w v1 (ae a))(h2:Rd .u64 w v2 (ae b)) :
 Calls Tryz.prog 231 #[v1,v2] w fun e w'=>∃ r,e=.returned (.tuple #[.slice none 0 0,r])∧Gb.Own .u64 112 w.heap.size w' r (ae a)∧Below w.heap.size w w':=by
 have hless:=nz v1 v2 a b (by omega) w h1 h2;rw[show decide (a<b)=true by simpa using hab]at hless;obtain ⟨HL,H1,Hl⟩:=ak hless h1 hl;clear hless h1 h2 hab hl;go_enter func231,ntmps231
 go_wp2_with fail
 refine HL.o.mono ?_;rintro e w1 ⟨rfl,hb1⟩;have hcl:=hid (oJ v1 (ae a) Hl.o w1 (H1.o.below hb1));have uu:=hid hb1;clear hb1;go_wp2_with fail
 refine hcl.o.mono ?_;rintro e w2 ⟨r,rfl,hown,hb2⟩;have HO:=hid (hown.mono uu.o.size);have w9:=hbt uu hb2;clear hown hb2;go_wp2;go_ret2
 exact⟨r,rfl,HO.o,w9.o⟩
theorem zN (r:Nat):ae (ai [r])=ae r:=by simp[ai]
theorem wY (v1 v2:Value)(a b:Nat)(hab:¬ a<b)(hlb:(ae b).length=1)(hl:(ae a).length≤100000)(w:World)(h1:Rd .u64 w v1 (ae a))(h2:Rd .u64 w v2 (ae b)) :
 Calls Tryz.prog 231 #[v1,v2] w fun e w'=>∃ q r,e=.returned (.tuple #[q,r])∧Gb.Own .u64 112 w.heap.size w' q (ae (a / b))∧Gb.Own .u64 112 w.heap.size w' r (ae (a%b))∧Below w.heap.size w w':=by
 have hb0:b≠0:=by intro h;rw[h,aQ]at hlb;simp at hlb
 have hbB:b<BB:=by have:=dG b;rwa [hlb,Nat.pow_one]at this
 have hdb:(ae b).getD 0 0=b:=by
  have:=az b;rw[bP hb0]at hlb ⊢;have e:ae (b / BB)=[]:=List.length_eq_zero_iff.1 (by simpa using hlb);simp[Nat.mod_eq_of_lt hbB]
 have hless:=nz v1 v2 a b (by omega) w h1 h2;rw[show decide (a<b)=false by simpa using hab]at hless;have ha0:a≠0:=by omega
 obtain⟨b1,o1,c1,rfl,_,_,k1,r1⟩:=dM h1 (List.length_pos_iff.2 (by rw[bP ha0];simp));obtain⟨b2,o2,c2,rfl,_,_,k2,r2⟩:=dM h2 (by omega);have r20:=r2 0 (by omega);rw[hdb,Nat.add_zero]at r20;rw[hlb]at hless ⊢;obtain ⟨HL,HR1,HR20,Hl⟩:=aN hless r1 r20 hl;have Hb0:=hid (show 0<b by omega);have HbB:=hid hbB;clear hless h1 h2 hab hl r1 r2 r20 hdb hlb hb0 hbB ha0;go_enter func231,ntmps231
 go_wp2_with fail
 refine HL.o.mono ?_;rintro e w1 ⟨rfl,hb1⟩;have hc20:=(hb1.cell (p:=⟨b2,o2,none⟩) k2).trans HR20.o;have hdw:=hid (uF b1 o1 c1 (ae a) b Hb0.o (by have:=aG;have:=HbB.o;omega) (aR a) Hl.o w1 (Nat.lt_of_lt_of_le k1 hb1.size) (fun i hi=>(hb1.cell (p:=⟨b1,o1+i,none⟩) k1).trans (HR1.o i hi)));have uu:=hid hb1;clear hb1;go_wp2_with fail
 refine hdw.o.mono ?_;rintro e w2 ⟨q,rfl,hown,hb2⟩;rw[az]at hown ⊢;have HO:=hid (hown.mono uu.o.size);have w9:=hbt uu hb2;clear hown hb2 hc20 hdw HL;have hrB:a%b<BB:=Nat.lt_trans (Nat.mod_lt _ Hb0.o) HbB.o;have hblk:Blk (w2.alloc (.cells #[.int .u64 ((a:Int)%(b:Int))] 112)) w2.heap.size [a%b]:=Blk.alloc [a%b] _ (by simp[cls]);have hown2:=hblk.own (B:=w.heap.size) w9.o.size (by unfold maxLen;simp) 1 (by simp);have htr:=fC 112 w.heap.size _ [a%b] (by intro x hx;have:=List.mem_singleton.1 hx;omega) (w2.alloc (.cells #[.int .u64 ((a:Int)%(b:Int))] 112)) hown2;rw[zN]at htr;have HTR:=hid htr;have HO2:=hid (HO.o.below ((Below.refl w2.heap.size w2).alloc (Nat.le_refl _) (.cells #[.int .u64 ((a:Int)%(b:Int))] 112)));have wm:=hid (w9.o.alloc w9.o.size (.cells #[.int .u64 ((a:Int)%(b:Int))] 112));clear hrB hblk hown2 htr;go_wp2_with fail
 refine HTR.o.mono ?_;rintro e w3 ⟨r,rfl,hr,rfl⟩;go_wp2;go_ret2
 exact⟨q,r,rfl,HO2.o,hr,wm.o⟩
def RowB (w:World) (g cap:Nat) (bs:List UInt8):Prop:=∃ cur:Array Value,w.heap[g]? = some (.cells cur 5 (0,0))∧cur.size=cap∧bs.length≤cap∧cur.toList.take bs.length=Lib.byteCells bs
theorem sF {bs:List UInt8}{i:Nat}(h:i<bs.length):(Lib.byteCells bs)[i]? = some (.int .u8 ((bs.getD i 0).toNat:Int)):=by
 simp[Lib.byteCells,List.getD,h]
theorem RowB.cell {w:World}{g cap:Nat}{bs:List UInt8}(h:RowB w g cap bs){i:Nat}(hi:i<bs.length):w.cell? ⟨g,i,none⟩=some (.int .u8 ((bs.getD i 0).toNat:Int)):=by
 obtain⟨cur,h1,h2,h3,h4⟩:=h;have h5:=sF hi;rw[← h4,List.getElem?_take,if_pos hi]at h5;simp only[World.cell?,h1];simpa using h5
theorem RowB.free {w:World}{g cap:Nat}{bs:List UInt8}(h:RowB w g cap bs)(i:Nat):w.frozen? ⟨g,i,none⟩=false:=by
 obtain⟨cur,h1,h2,h3,h4⟩:=h;simp only[World.frozen?,h1];simp
theorem RowB.set {w:World}{g cap:Nat}{bs:List UInt8}(h:RowB w g cap bs)(i:Nat)(v:UInt8):RowB (w.setCell ⟨g,i,none⟩ (.int .u8 (v.toNat:Int))) g cap (bs.set i v):=by
 obtain⟨cur,h1,h2,h3,h4⟩:=h;refine⟨cur.setIfInBounds i (.int .u8 (v.toNat:Int)),?_,by simp[h2],by simpa using h3,?_⟩
 · simp only[World.setCell,Array.getElem?_modify,h1]
   simp
 · rw[List.length_set,Lib.byteCells,List.map_set,Array.toList_setIfInBounds,List.take_set,h4]
   rfl
theorem RowB.of_own {w:World}{B:Nat}{v:Value}{bs:List UInt8}(h:w.ownsRow B 5 1 v bs.length (Lib.byteCells bs))(hp:0<bs.length):∃ g cap,v=.slice (some ⟨g,0,none⟩) bs.length cap∧B≤g∧cap≤maxLen∧RowB w g cap bs:=by
 obtain⟨h1,h2⟩:=h;rcases h2 with⟨h2,h3⟩|⟨g,cap,cur,hv,hg,hh,hn,hc,hs,ht⟩
 · omega
 · rw[Nat.mul_one]at hs ht
   exact⟨g,cap,hv,hg,hc,cur,hh,hs,hn,ht⟩
