/- texts -/
import Derived.Test.YteihfbkaieemdaaGreatDoorMz8q
open Go.Proofs.Tryz
set_option maxRecDepth 100000
set_option maxHeartbeats 20000000
open Go.Lib (hid)
namespace Go.Proofs.YteihfbkaieemdaaGreatDoor
open Go.RowKit Go.Gb
def Car (w:World) (g c:Nat):Prop:=w.heap[g]? = some (.cells #[.int .u64 ((c:Nat):Int)] 261 (0,0))
theorem Car.lt {w:World}{g c:Nat}(h:Car w g c):g<w.heap.size:=lt_of_block h
theorem Car.set {w:World}{g c:Nat}(h:Car w g c)(d:Nat):Car (w.setCell ⟨g,0,none⟩ (.int .u64 ((d:Nat):Int))) g d:=one_setCell h
theorem Car.other {w:World}{g c:Nat}(h:Car w g c){k:Nat}(hk:k≠g)(i:Nat)(v:Value):Car (w.setCell ⟨k,i,none⟩ v) g c:=by
 unfold Car at *
 rw[Below.heap_setCell _ _ _ _ (fun e=>hk e.symm)];exact h
theorem Blk.other {w:World}{g:Nat}{zs:List Nat}(h:Blk w g zs){k:Nat}(hk:k≠g)(i:Nat)(v:Value):Blk (w.setCell ⟨k,i,none⟩ v) g zs:=by
 unfold Blk at *
 rw[Below.heap_setCell _ _ _ _ (fun e=>hk e.symm)];exact h
theorem Blk.alloc {w:World}(zs:List Nat)(cs:Array Value)(h:cs=(cls .u64 zs).toArray):Blk (w.alloc (.cells cs 131)) w.heap.size zs:=by
 unfold Blk;rw[heap_alloc_new,h]
theorem iR {a w:World}{row:Option Nat}(h:a.grownBy w row){k:Nat}(hk:a.heap.size≤k)(i:Nat)(v:Value):a.grownBy (w.setCell ⟨k,i,none⟩ v) row :=
 ⟨h.os,h.tape,h.output,by have:=h.size;simpa using this,fun j hj hr=>by rw[Below.heap_setCell _ _ _ _ (by simp;omega)];exact h.block j hj hr⟩
theorem xV (g x y c:Nat)(hx:x<1000000000)(hy:y<1000000000)(h:x+y+c<1000000000)(w:World)(hc:Car w g c) :
 Calls Tryz.prog 257 #[.pointer (some ⟨g,0,none⟩),.int .u64 (x:Int),.int .u64 (y:Int)] w fun e w'=>e=.returned (.int .u64 ((x+y+c:Nat):Int))∧w.setCell ⟨g,0,none⟩ (.int .u64 ((0:Nat):Int))=w':=by
 have hcell:=cell_of_one hc;have hfree:=free_of_one hc;have k1:(x:Int)≤999999999:=by omega
 have k2:(y:Int)≤999999999:=by omega
 have k3:(x:Int)+(y:Int)+(c:Int)<1000000000:=by omega
 clear hx hy h hc;go_enter func257,ntmps257
 go_wp2;go_ret
 exact⟨rfl,rfl⟩
theorem z1z (g x y c:Nat)(hx:x<1000000000)(hy:y<1000000000)(hc1:c≤1)(h:1000000000≤x+y+c)(w:World)(hc:Car w g c) :
 Calls Tryz.prog 257 #[.pointer (some ⟨g,0,none⟩),.int .u64 (x:Int),.int .u64 (y:Int)] w fun e w'=>e=.returned (.int .u64 ((x+y+c-1000000000:Nat):Int))∧w.setCell ⟨g,0,none⟩ (.int .u64 ((1:Nat):Int))=w':=by
 have hcell:=cell_of_one hc;have hfree:=free_of_one hc;have k1:(x:Int)≤999999999:=by omega
 have k2:(y:Int)≤999999999:=by omega
 have k3:¬ (x:Int)+(y:Int)+(c:Int)<1000000000:=by omega
 have k4:(c:Int)≤1:=by omega
 clear hx hy h hc1 hc;go_enter func257,ntmps257
 go_wp2;go_ret
 exact⟨dO (by omega),rfl⟩
theorem uJ (g x y c:Nat)(hx:x<1000000000)(hy:y<1000000000)(hc1:c≤1)(h:y+c≤x)(w:World)(hc:Car w g c) :
 Calls Tryz.prog 256 #[.pointer (some ⟨g,0,none⟩),.int .u64 (x:Int),.int .u64 (y:Int)] w fun e w'=>e=.returned (.int .u64 ((x-(y+c):Nat):Int))∧w.setCell ⟨g,0,none⟩ (.int .u64 ((0:Nat):Int))=w':=by
 have hcell:=cell_of_one hc;have hfree:=free_of_one hc;clear hc;go_enter func256,ntmps256
 go_wp2;go_ret
 exact⟨dO (by omega),rfl⟩
theorem z01 (g x y c:Nat)(hx:x<1000000000)(hy:y<1000000000)(hc1:c≤1)(h:x<y+c)(w:World)(hc:Car w g c) :
 Calls Tryz.prog 256 #[.pointer (some ⟨g,0,none⟩),.int .u64 (x:Int),.int .u64 (y:Int)] w fun e w'=>e=.returned (.int .u64 ((x+1000000000-(y+c):Nat):Int))∧w.setCell ⟨g,0,none⟩ (.int .u64 ((1:Nat):Int))=w':=by
 have hcell:=cell_of_one hc;have hfree:=free_of_one hc;clear hc;go_enter func256,ntmps256
 go_wp2;go_ret
 exact⟨dO (by omega),rfl⟩
structure StepOk (Inv:List Nat→List Nat→List Nat→Nat→Nat→Prop) (f g:Nat) (xs ys:List Nat):Prop where
 step:∀ (i:Nat) (os:List Nat) (c:Nat) (w:World),i<xs.length→Inv xs ys os i c→Car w g c →
  Calls Tryz.prog f #[.pointer (some ⟨g,0,none⟩),.int .u64 ((xs.getD i 0:Nat):Int),.int .u64 ((ys.getD i 0:Nat):Int)] w fun e w' =>
   ∃ r c':Nat,e=.returned (.int .u64 (r:Int))∧Inv xs ys (os++[r]) (i+1) c'∧w.setCell ⟨g,0,none⟩ (.int .u64 (c':Int))=w'
theorem getD_lt {xs:List Nat}(hx:∀ x∈xs,x<BB)(i:Nat):xs.getD i 0<BB:=by
 by_cases h:i<xs.length
 · exact hx _ (bz h)
 · have:xs.getD i 0=0:=by simp[List.getD,List.getElem?_eq_none (show xs.length≤i by omega)]
   rw[this];exact bS
theorem zR (g:Nat)(xs ys:List Nat)(hx:∀ x∈xs,x<BB)(hy:∀ y∈ys,y<BB):StepOk dD 257 g xs ys:=⟨by
 intro i os c w hi hinv hc;have hB:=aH;have h1:=getD_lt hx i;have h2:=getD_lt hy i;by_cases hs:xs.getD i 0+ys.getD i 0+c<BB
 · exact(xV g _ _ c (by omega) (by omega) (by omega) w hc).mono fun e w' ⟨he,hw⟩=>⟨_,0,he,hinv.small hs,hw⟩
 · exact(z1z g _ _ c (by omega) (by omega) hinv.2.2.1 (by omega) w hc).mono fun e w' ⟨he,hw⟩=>⟨_,1,he,by rw[← hB];exact hinv.big h1 h2 (by omega),hw⟩⟩
theorem wU (g:Nat)(xs ys:List Nat)(hx:∀ x∈xs,x<BB)(hy:∀ y∈ys,y<BB):StepOk eQ 256 g xs ys:=⟨by
 intro i os c w hi hinv hc;have hB:=aH;have h1:=getD_lt hx i;have h2:=getD_lt hy i;by_cases hs:ys.getD i 0+c≤xs.getD i 0
 · exact(uJ g _ _ c (by omega) (by omega) hinv.2.2.1 hs w hc).mono fun e w' ⟨he,hw⟩=>⟨_,0,he,hinv.small h1 hs,hw⟩
 · exact(z01 g _ _ c (by omega) (by omega) hinv.2.2.1 (by omega) w hc).mono fun e w' ⟨he,hw⟩=>⟨_,1,he,by rw[← hB];exact hinv.big h2 (by omega),hw⟩⟩
theorem gz (n:Nat):madeCells #[Value.int .u64 0] n=(cls .u64 (List.replicate n 0)).toArray:=by
 have:=dS n;rw[← this]
theorem dB {n i:Nat}(h:i<n):List.replicate (n+1-i) 0=(0:Nat) :: List.replicate (n+1-(i+1)) 0:=by
 rw[show n+1-i=(n+1-(i+1))+1 by omega,List.replicate_succ]
theorem oz (Inv:List Nat→List Nat→List Nat→Nat→Nat→Prop)(g:Nat)(b1 o1 c1:Nat)(b2 o2 c2:Nat)(xs ys:List Nat)(hl:xs.length≤100000)(w:World)
 (hstep:StepOk Inv 257 g xs ys) (h0:Inv xs ys [] 0 0) (hlen:∀ os i c,Inv xs ys os i c→os.length=i)
 (hcar:Car w g 0) (hb1:b1<w.heap.size) (hg1:b1≠g)
 (hcx:∀ i,i<xs.length→w.cell? ⟨b1,o1+i,none⟩=some (.int .u64 ((xs.getD i 0:Nat):Int))) (hb2:b2<w.heap.size) (hg2:b2≠g)
 (hcy:∀ i,i<ys.length→w.cell? ⟨b2,o2+i,none⟩=some (.int .u64 ((ys.getD i 0:Nat):Int))) :
 Calls Tryz.prog 255 #[.slice (some ⟨b1,o1,none⟩) xs.length c1,.slice (some ⟨b2,o2,none⟩) ys.length c2,.func (.func 257) #[.pointer (some ⟨g,0,none⟩)] #[]] w fun e w' =>
  e=.returned (.slice (some ⟨w.heap.size,0,none⟩) xs.length (xs.length+1))∧∃ (os:List Nat) (c:Nat),Inv xs ys os xs.length c∧Blk w' w.heap.size (os++[0])∧Car w' g c∧w.grownBy w' (some g):=by
 obtain⟨i0,hi,hz0,hz1,hz2⟩:=info_parts Tryz.info131;have hgs:=hcar.lt;have hgo:g≠w.heap.size:=by omega
 have hmk:∀ W,(Instr.makeSlice 176 (.int .i64 (xs.length:Int)) (.int .i64 ((xs.length:Int)+1))).run Tryz.prog W=.ok (.slice (some ⟨W.heap.size,0,none⟩) xs.length (xs.length+1)) (W.alloc (.cells (madeCells #[.int .u64 0] (xs.length+1)) 131)):=fun W=>by
  have h:=run_make (P:=Tryz.prog) W 176 131 i0 (.int .u64 0) underlying176 hi hz0 .i64 .i64 (xs.length:Int) ((xs.length:Int)+1) (by omega) (by omega) (by rw[hz2];omega) (by omega);rw[h,hz1,show((xs.length:Int)+1).toNat=xs.length+1 by omega,Nat.mul_one,Int.toNat_natCast];rfl
 have u6:=hid (Blk.alloc (w:=w) (List.replicate (xs.length+1) 0) _ (gz _));have HC0:=hid (show Car (w.alloc (.cells (madeCells #[.int .u64 0] (xs.length+1)) 131)) g 0 from by unfold Car;rw[Below.heap_alloc _ _ _ hgs];exact hcar);obtain ⟨HSTEP,HCX,HL,H0,HCY⟩:=bK hstep hcx hlen h0 hcy;clear hstep hcar hcx hlen h0 hcy;go_enter func255,ntmps255
 go_wp2;go_loopw [19] (fun ii wr=>∃ (i c:Nat) (os:List Nat),i≤xs.length∧ii=.int .i64 i∧Hid (Inv xs ys os i c )∧Hid (Blk wr w.heap.size (os++List.replicate (xs.length+1-i) 0))∧Hid (Car wr g c)∧Hid (w.grownBy wr (some g))) (fun ii _=>xs.length-(intOf ii).toNat)
 case atStart=>exact⟨0,0,[],Nat.zero_le _,rfl,H0,u6,HC0,World.grownBy_alloc _ _ _⟩
 case round =>
  obtain⟨i,c,os,hi',rfl,hI,hB,hC,hG⟩:=hrel;clear hmk u6 HC0 H0;by_cases hlt:i<xs.length
  · have hcx':=(show wr.cell? ⟨b1,o1+i,none⟩=w.cell? ⟨b1,o1+i,none⟩from World.cell?_of_block (hG.o.block b1 hb1 (fun e=>hg1 (Option.some.inj e)))).trans (HCX.o i hlt)
    have HST:=hid (HSTEP.o.step i os c wr hlt hI.o hC.o);have hI:Hid (Inv xs ys os i c∧os.length=i):=hid ⟨hI.o,HL.o _ _ _ hI.o⟩;have hI:=hid (⟨hI.o.2,hI.o.1⟩:os.length=i∧Inv xs ys os i c);by_cases hy:i<ys.length
    · have hcy':=(show wr.cell? ⟨b2,o2+i,none⟩=w.cell? ⟨b2,o2+i,none⟩from World.cell?_of_block (hG.o.block b2 hb2 (fun e=>hg2 (Option.some.inj e)))).trans (HCY.o i hy)
      generalize xs.getD i 0=x at *;generalize ys.getD i 0=y at *;go_wp2_with fail
      refine HST.o.mono ?_;rintro e w1 ⟨r,c',rfl,hinv',rfl⟩;have hb1':=(hB.o.other hgo (k:=g) 0 (.int .u64 (c':Int)));rw[dB hlt]at hb1';have hl1:=hI.o.1;have hcell1:=hb1'.cell (i:=os.length) (by simp);have hfree1:=hb1'.free os.length;have hset1:=hb1'.set os.length r;have e1:(os++0 :: List.replicate (xs.length+1-(i+1)) 0).getD os.length 0=0:=by simp[List.getD]
      have e2:(os++0 :: List.replicate (xs.length+1-(i+1)) 0).set os.length r=(os++[r])++List.replicate (xs.length+1-(i+1)) 0:=by simp
      rw[e1]at hcell1;rw[e2]at hset1;rw[hl1]at hcell1 hfree1 hset1;obtain ⟨HI',HS'⟩:=aB hinv' hset1;have HC':=hid ((hC.o.set c').other (show w.heap.size≠g by omega) i (.int .u64 (r:Int)));have HG':=hid (iR (Lib.grownBy_setB hG.o 0 (.int .u64 (c':Int))) (k:=w.heap.size) (Nat.le_refl _) i (.int .u64 (r:Int)));clear hinv' hb1' hl1 hset1 e1 e2;go_wp2;go_roundw
      case rel=>exact⟨i+1,c',os++[r],by omega,by go_num,HI',HS',HC',HG'⟩
      case measure=>simp[intOf];omega
    · have hyz:ys.getD i 0=0:=by simp[List.getD,List.getElem?_eq_none (show ys.length≤i by omega)]
      rw[hyz]at HST;clear hyz;generalize xs.getD i 0=x at *;go_wp2_with fail
      refine HST.o.mono ?_;rintro e w1 ⟨r,c',rfl,hinv',rfl⟩;have hb1':=(hB.o.other hgo (k:=g) 0 (.int .u64 (c':Int)));rw[dB hlt]at hb1';have hl1:=hI.o.1;have hcell1:=hb1'.cell (i:=os.length) (by simp);have hfree1:=hb1'.free os.length;have hset1:=hb1'.set os.length r;have e1:(os++0 :: List.replicate (xs.length+1-(i+1)) 0).getD os.length 0=0:=by simp[List.getD]
      have e2:(os++0 :: List.replicate (xs.length+1-(i+1)) 0).set os.length r=(os++[r])++List.replicate (xs.length+1-(i+1)) 0:=by simp
      rw[e1]at hcell1;rw[e2]at hset1;rw[hl1]at hcell1 hfree1 hset1;obtain ⟨HI',HS'⟩:=aB hinv' hset1;have HC':=hid ((hC.o.set c').other (show w.heap.size≠g by omega) i (.int .u64 (r:Int)));have HG':=hid (iR (Lib.grownBy_setB hG.o 0 (.int .u64 (c':Int))) (k:=w.heap.size) (Nat.le_refl _) i (.int .u64 (r:Int)));clear hinv' hb1' hl1 hset1 e1 e2;go_wp2;go_roundw
      case rel=>exact⟨i+1,c',os++[r],by omega,by go_num,HI',HS',HC',HG'⟩
      case measure=>simp[intOf];omega
  · have hi2:i=xs.length:=by omega
    have hB':=hB.o;have hI':=hI.o;rw[hi2,show xs.length+1-xs.length=1 by omega]at hB';rw[hi2]at hI';obtain ⟨HB',HI'⟩:=aB hB' hI';clear hB' hI' hi2;go_wp2;go_ret
    exact⟨rfl,os,c,HI'.o,HB'.o,hC.o,hG.o⟩
theorem qH (Inv:List Nat→List Nat→List Nat→Nat→Nat→Prop)(g:Nat)(b1 o1 c1:Nat)(a2:Option Addr)(c2:Nat)(xs ys:List Nat)(hl:xs.length≤100000)(w:World)
 (hstep:StepOk Inv 257 g xs ys) (h0:Inv xs ys [] 0 0) (hlen:∀ os i c,Inv xs ys os i c→os.length=i)
 (hcar:Car w g 0) (hb1:b1<w.heap.size) (hg1:b1≠g)
 (hcx:∀ i,i<xs.length→w.cell? ⟨b1,o1+i,none⟩=some (.int .u64 ((xs.getD i 0:Nat):Int))) (hy0:ys.length≤0) :
 Calls Tryz.prog 255 #[.slice (some ⟨b1,o1,none⟩) xs.length c1,.slice a2 ys.length c2,.func (.func 257) #[.pointer (some ⟨g,0,none⟩)] #[]] w fun e w' =>
  e=.returned (.slice (some ⟨w.heap.size,0,none⟩) xs.length (xs.length+1))∧∃ (os:List Nat) (c:Nat),Inv xs ys os xs.length c∧Blk w' w.heap.size (os++[0])∧Car w' g c∧w.grownBy w' (some g):=by
 obtain⟨i0,hi,hz0,hz1,hz2⟩:=info_parts Tryz.info131;have hgs:=hcar.lt;have hgo:g≠w.heap.size:=by omega
 have hmk:∀ W,(Instr.makeSlice 176 (.int .i64 (xs.length:Int)) (.int .i64 ((xs.length:Int)+1))).run Tryz.prog W=.ok (.slice (some ⟨W.heap.size,0,none⟩) xs.length (xs.length+1)) (W.alloc (.cells (madeCells #[.int .u64 0] (xs.length+1)) 131)):=fun W=>by
  have h:=run_make (P:=Tryz.prog) W 176 131 i0 (.int .u64 0) underlying176 hi hz0 .i64 .i64 (xs.length:Int) ((xs.length:Int)+1) (by omega) (by omega) (by rw[hz2];omega) (by omega);rw[h,hz1,show((xs.length:Int)+1).toNat=xs.length+1 by omega,Nat.mul_one,Int.toNat_natCast];rfl
 have u6:=hid (Blk.alloc (w:=w) (List.replicate (xs.length+1) 0) _ (gz _));have HC0:=hid (show Car (w.alloc (.cells (madeCells #[.int .u64 0] (xs.length+1)) 131)) g 0 from by unfold Car;rw[Below.heap_alloc _ _ _ hgs];exact hcar);obtain ⟨HSTEP,HCX,HL,H0⟩:=aJ hstep hcx hlen h0;clear hstep hcar hcx hlen h0;go_enter func255,ntmps255
 go_wp2;go_loopw [19] (fun ii wr=>∃ (i c:Nat) (os:List Nat),i≤xs.length∧ii=.int .i64 i∧Hid (Inv xs ys os i c )∧Hid (Blk wr w.heap.size (os++List.replicate (xs.length+1-i) 0))∧Hid (Car wr g c)∧Hid (w.grownBy wr (some g))) (fun ii _=>xs.length-(intOf ii).toNat)
 case atStart=>exact⟨0,0,[],Nat.zero_le _,rfl,H0,u6,HC0,World.grownBy_alloc _ _ _⟩
 case round =>
  obtain⟨i,c,os,hi',rfl,hI,hB,hC,hG⟩:=hrel;clear hmk u6 HC0 H0;by_cases hlt:i<xs.length
  · have hcx':=(show wr.cell? ⟨b1,o1+i,none⟩=w.cell? ⟨b1,o1+i,none⟩from World.cell?_of_block (hG.o.block b1 hb1 (fun e=>hg1 (Option.some.inj e)))).trans (HCX.o i hlt)
    have HST:=hid (HSTEP.o.step i os c wr hlt hI.o hC.o);have hI:Hid (Inv xs ys os i c∧os.length=i):=hid ⟨hI.o,HL.o _ _ _ hI.o⟩;have hI:=hid (⟨hI.o.2,hI.o.1⟩:os.length=i∧Inv xs ys os i c);have hy:¬ i<ys.length:=by omega
    have hyz:ys.getD i 0=0:=by simp[List.getD,List.getElem?_eq_none (show ys.length≤i by omega)]
    rw[hyz]at HST;clear hyz;generalize xs.getD i 0=x at *;go_wp2_with fail
    refine HST.o.mono ?_;rintro e w1 ⟨r,c',rfl,hinv',rfl⟩;have hb1':=(hB.o.other hgo (k:=g) 0 (.int .u64 (c':Int)));rw[dB hlt]at hb1';have hl1:=hI.o.1;have hcell1:=hb1'.cell (i:=os.length) (by simp);have hfree1:=hb1'.free os.length;have hset1:=hb1'.set os.length r;have e1:(os++0 :: List.replicate (xs.length+1-(i+1)) 0).getD os.length 0=0:=by simp[List.getD]
    have e2:(os++0 :: List.replicate (xs.length+1-(i+1)) 0).set os.length r=(os++[r])++List.replicate (xs.length+1-(i+1)) 0:=by simp
    rw[e1]at hcell1;rw[e2]at hset1;rw[hl1]at hcell1 hfree1 hset1;obtain ⟨HI',HS'⟩:=aB hinv' hset1;have HC':=hid ((hC.o.set c').other (show w.heap.size≠g by omega) i (.int .u64 (r:Int)));have HG':=hid (iR (Lib.grownBy_setB hG.o 0 (.int .u64 (c':Int))) (k:=w.heap.size) (Nat.le_refl _) i (.int .u64 (r:Int)));clear hinv' hb1' hl1 hset1 e1 e2;go_wp2;go_roundw
    case rel=>exact⟨i+1,c',os++[r],by omega,by go_num,HI',HS',HC',HG'⟩
    case measure=>simp[intOf];omega
  · have hi2:i=xs.length:=by omega
    have hB':=hB.o;have hI':=hI.o;rw[hi2,show xs.length+1-xs.length=1 by omega]at hB';rw[hi2]at hI';obtain ⟨HB',HI'⟩:=aB hB' hI';clear hB' hI' hi2;go_wp2;go_ret
    exact⟨rfl,os,c,HI'.o,HB'.o,hC.o,hG.o⟩
theorem nI (Inv:List Nat→List Nat→List Nat→Nat→Nat→Prop)(g:Nat)(b1 o1 c1:Nat)(b2 o2 c2:Nat)(xs ys:List Nat)(hl:xs.length≤100000)(w:World)
 (hstep:StepOk Inv 256 g xs ys) (h0:Inv xs ys [] 0 0) (hlen:∀ os i c,Inv xs ys os i c→os.length=i)
 (hcar:Car w g 0) (hb1:b1<w.heap.size) (hg1:b1≠g)
 (hcx:∀ i,i<xs.length→w.cell? ⟨b1,o1+i,none⟩=some (.int .u64 ((xs.getD i 0:Nat):Int))) (hb2:b2<w.heap.size) (hg2:b2≠g)
 (hcy:∀ i,i<ys.length→w.cell? ⟨b2,o2+i,none⟩=some (.int .u64 ((ys.getD i 0:Nat):Int))) :
 Calls Tryz.prog 255 #[.slice (some ⟨b1,o1,none⟩) xs.length c1,.slice (some ⟨b2,o2,none⟩) ys.length c2,.func (.func 256) #[.pointer (some ⟨g,0,none⟩)] #[]] w fun e w' =>
  e=.returned (.slice (some ⟨w.heap.size,0,none⟩) xs.length (xs.length+1))∧∃ (os:List Nat) (c:Nat),Inv xs ys os xs.length c∧Blk w' w.heap.size (os++[0])∧Car w' g c∧w.grownBy w' (some g):=by
 obtain⟨i0,hi,hz0,hz1,hz2⟩:=info_parts Tryz.info131;have hgs:=hcar.lt;have hgo:g≠w.heap.size:=by omega
 have hmk:∀ W,(Instr.makeSlice 176 (.int .i64 (xs.length:Int)) (.int .i64 ((xs.length:Int)+1))).run Tryz.prog W=.ok (.slice (some ⟨W.heap.size,0,none⟩) xs.length (xs.length+1)) (W.alloc (.cells (madeCells #[.int .u64 0] (xs.length+1)) 131)):=fun W=>by
  have h:=run_make (P:=Tryz.prog) W 176 131 i0 (.int .u64 0) underlying176 hi hz0 .i64 .i64 (xs.length:Int) ((xs.length:Int)+1) (by omega) (by omega) (by rw[hz2];omega) (by omega);rw[h,hz1,show((xs.length:Int)+1).toNat=xs.length+1 by omega,Nat.mul_one,Int.toNat_natCast];rfl
 have u6:=hid (Blk.alloc (w:=w) (List.replicate (xs.length+1) 0) _ (gz _));have HC0:=hid (show Car (w.alloc (.cells (madeCells #[.int .u64 0] (xs.length+1)) 131)) g 0 from by unfold Car;rw[Below.heap_alloc _ _ _ hgs];exact hcar);obtain ⟨HSTEP,HCX,HL,H0,HCY⟩:=bK hstep hcx hlen h0 hcy;clear hstep hcar hcx hlen h0 hcy;go_enter func255,ntmps255
 go_wp2;go_loopw [19] (fun ii wr=>∃ (i c:Nat) (os:List Nat),i≤xs.length∧ii=.int .i64 i∧Hid (Inv xs ys os i c )∧Hid (Blk wr w.heap.size (os++List.replicate (xs.length+1-i) 0))∧Hid (Car wr g c)∧Hid (w.grownBy wr (some g))) (fun ii _=>xs.length-(intOf ii).toNat)
 case atStart=>exact⟨0,0,[],Nat.zero_le _,rfl,H0,u6,HC0,World.grownBy_alloc _ _ _⟩
 case round =>
  obtain⟨i,c,os,hi',rfl,hI,hB,hC,hG⟩:=hrel;clear hmk u6 HC0 H0;by_cases hlt:i<xs.length
  · have hcx':=(show wr.cell? ⟨b1,o1+i,none⟩=w.cell? ⟨b1,o1+i,none⟩from World.cell?_of_block (hG.o.block b1 hb1 (fun e=>hg1 (Option.some.inj e)))).trans (HCX.o i hlt)
    have HST:=hid (HSTEP.o.step i os c wr hlt hI.o hC.o);have hI:Hid (Inv xs ys os i c∧os.length=i):=hid ⟨hI.o,HL.o _ _ _ hI.o⟩;have hI:=hid (⟨hI.o.2,hI.o.1⟩:os.length=i∧Inv xs ys os i c);by_cases hy:i<ys.length
    · have hcy':=(show wr.cell? ⟨b2,o2+i,none⟩=w.cell? ⟨b2,o2+i,none⟩from World.cell?_of_block (hG.o.block b2 hb2 (fun e=>hg2 (Option.some.inj e)))).trans (HCY.o i hy)
      generalize xs.getD i 0=x at *;generalize ys.getD i 0=y at *;go_wp2_with fail
      refine HST.o.mono ?_;rintro e w1 ⟨r,c',rfl,hinv',rfl⟩;have hb1':=(hB.o.other hgo (k:=g) 0 (.int .u64 (c':Int)));rw[dB hlt]at hb1';have hl1:=hI.o.1;have hcell1:=hb1'.cell (i:=os.length) (by simp);have hfree1:=hb1'.free os.length;have hset1:=hb1'.set os.length r;have e1:(os++0 :: List.replicate (xs.length+1-(i+1)) 0).getD os.length 0=0:=by simp[List.getD]
      have e2:(os++0 :: List.replicate (xs.length+1-(i+1)) 0).set os.length r=(os++[r])++List.replicate (xs.length+1-(i+1)) 0:=by simp
      rw[e1]at hcell1;rw[e2]at hset1;rw[hl1]at hcell1 hfree1 hset1;obtain ⟨HI',HS'⟩:=aB hinv' hset1;have HC':=hid ((hC.o.set c').other (show w.heap.size≠g by omega) i (.int .u64 (r:Int)));have HG':=hid (iR (Lib.grownBy_setB hG.o 0 (.int .u64 (c':Int))) (k:=w.heap.size) (Nat.le_refl _) i (.int .u64 (r:Int)));clear hinv' hb1' hl1 hset1 e1 e2;go_wp2;go_roundw
      case rel=>exact⟨i+1,c',os++[r],by omega,by go_num,HI',HS',HC',HG'⟩
      case measure=>simp[intOf];omega
    · have hyz:ys.getD i 0=0:=by simp[List.getD,List.getElem?_eq_none (show ys.length≤i by omega)]
      rw[hyz]at HST;clear hyz;generalize xs.getD i 0=x at *;go_wp2_with fail
      refine HST.o.mono ?_;rintro e w1 ⟨r,c',rfl,hinv',rfl⟩;have hb1':=(hB.o.other hgo (k:=g) 0 (.int .u64 (c':Int)));rw[dB hlt]at hb1';have hl1:=hI.o.1;have hcell1:=hb1'.cell (i:=os.length) (by simp);have hfree1:=hb1'.free os.length;have hset1:=hb1'.set os.length r;have e1:(os++0 :: List.replicate (xs.length+1-(i+1)) 0).getD os.length 0=0:=by simp[List.getD]
      have e2:(os++0 :: List.replicate (xs.length+1-(i+1)) 0).set os.length r=(os++[r])++List.replicate (xs.length+1-(i+1)) 0:=by simp
      rw[e1]at hcell1;rw[e2]at hset1;rw[hl1]at hcell1 hfree1 hset1;obtain ⟨HI',HS'⟩:=aB hinv' hset1;have HC':=hid ((hC.o.set c').other (show w.heap.size≠g by omega) i (.int .u64 (r:Int)));have HG':=hid (iR (Lib.grownBy_setB hG.o 0 (.int .u64 (c':Int))) (k:=w.heap.size) (Nat.le_refl _) i (.int .u64 (r:Int)));clear hinv' hb1' hl1 hset1 e1 e2;go_wp2;go_roundw
      case rel=>exact⟨i+1,c',os++[r],by omega,by go_num,HI',HS',HC',HG'⟩
      case measure=>simp[intOf];omega
  · have hi2:i=xs.length:=by omega
    have hB':=hB.o;have hI':=hI.o;rw[hi2,show xs.length+1-xs.length=1 by omega]at hB';rw[hi2]at hI';obtain ⟨HB',HI'⟩:=aB hB' hI';clear hB' hI' hi2;go_wp2;go_ret
    exact⟨rfl,os,c,HI'.o,HB'.o,hC.o,hG.o⟩
theorem oC (Inv:List Nat→List Nat→List Nat→Nat→Nat→Prop)(g:Nat)(b1 o1 c1:Nat)(a2:Option Addr)(c2:Nat)(xs ys:List Nat)(hl:xs.length≤100000)(w:World)
 (hstep:StepOk Inv 256 g xs ys) (h0:Inv xs ys [] 0 0) (hlen:∀ os i c,Inv xs ys os i c→os.length=i)
 (hcar:Car w g 0) (hb1:b1<w.heap.size) (hg1:b1≠g)
 (hcx:∀ i,i<xs.length→w.cell? ⟨b1,o1+i,none⟩=some (.int .u64 ((xs.getD i 0:Nat):Int))) (hy0:ys.length≤0) :
 Calls Tryz.prog 255 #[.slice (some ⟨b1,o1,none⟩) xs.length c1,.slice a2 ys.length c2,.func (.func 256) #[.pointer (some ⟨g,0,none⟩)] #[]] w fun e w' =>
  e=.returned (.slice (some ⟨w.heap.size,0,none⟩) xs.length (xs.length+1))∧∃ (os:List Nat) (c:Nat),Inv xs ys os xs.length c∧Blk w' w.heap.size (os++[0])∧Car w' g c∧w.grownBy w' (some g):=by
 obtain⟨i0,hi,hz0,hz1,hz2⟩:=info_parts Tryz.info131;have hgs:=hcar.lt;have hgo:g≠w.heap.size:=by omega
 have hmk:∀ W,(Instr.makeSlice 176 (.int .i64 (xs.length:Int)) (.int .i64 ((xs.length:Int)+1))).run Tryz.prog W=.ok (.slice (some ⟨W.heap.size,0,none⟩) xs.length (xs.length+1)) (W.alloc (.cells (madeCells #[.int .u64 0] (xs.length+1)) 131)):=fun W=>by
  have h:=run_make (P:=Tryz.prog) W 176 131 i0 (.int .u64 0) underlying176 hi hz0 .i64 .i64 (xs.length:Int) ((xs.length:Int)+1) (by omega) (by omega) (by rw[hz2];omega) (by omega);rw[h,hz1,show((xs.length:Int)+1).toNat=xs.length+1 by omega,Nat.mul_one,Int.toNat_natCast];rfl
 have u6:=hid (Blk.alloc (w:=w) (List.replicate (xs.length+1) 0) _ (gz _));have HC0:=hid (show Car (w.alloc (.cells (madeCells #[.int .u64 0] (xs.length+1)) 131)) g 0 from by unfold Car;rw[Below.heap_alloc _ _ _ hgs];exact hcar);obtain ⟨HSTEP,HCX,HL,H0⟩:=aJ hstep hcx hlen h0;clear hstep hcar hcx hlen h0;go_enter func255,ntmps255
 go_wp2;go_loopw [19] (fun ii wr=>∃ (i c:Nat) (os:List Nat),i≤xs.length∧ii=.int .i64 i∧Hid (Inv xs ys os i c )∧Hid (Blk wr w.heap.size (os++List.replicate (xs.length+1-i) 0))∧Hid (Car wr g c)∧Hid (w.grownBy wr (some g))) (fun ii _=>xs.length-(intOf ii).toNat)
 case atStart=>exact⟨0,0,[],Nat.zero_le _,rfl,H0,u6,HC0,World.grownBy_alloc _ _ _⟩
 case round =>
  obtain⟨i,c,os,hi',rfl,hI,hB,hC,hG⟩:=hrel;clear hmk u6 HC0 H0;by_cases hlt:i<xs.length
  · have hcx':=(show wr.cell? ⟨b1,o1+i,none⟩=w.cell? ⟨b1,o1+i,none⟩from World.cell?_of_block (hG.o.block b1 hb1 (fun e=>hg1 (Option.some.inj e)))).trans (HCX.o i hlt)
    have HST:=hid (HSTEP.o.step i os c wr hlt hI.o hC.o);have hI:Hid (Inv xs ys os i c∧os.length=i):=hid ⟨hI.o,HL.o _ _ _ hI.o⟩;have hI:=hid (⟨hI.o.2,hI.o.1⟩:os.length=i∧Inv xs ys os i c);have hy:¬ i<ys.length:=by omega
    have hyz:ys.getD i 0=0:=by simp[List.getD,List.getElem?_eq_none (show ys.length≤i by omega)]
    rw[hyz]at HST;clear hyz;generalize xs.getD i 0=x at *;go_wp2_with fail
    refine HST.o.mono ?_;rintro e w1 ⟨r,c',rfl,hinv',rfl⟩;have hb1':=(hB.o.other hgo (k:=g) 0 (.int .u64 (c':Int)));rw[dB hlt]at hb1';have hl1:=hI.o.1;have hcell1:=hb1'.cell (i:=os.length) (by simp);have hfree1:=hb1'.free os.length;have hset1:=hb1'.set os.length r;have e1:(os++0 :: List.replicate (xs.length+1-(i+1)) 0).getD os.length 0=0:=by simp[List.getD]
    have e2:(os++0 :: List.replicate (xs.length+1-(i+1)) 0).set os.length r=(os++[r])++List.replicate (xs.length+1-(i+1)) 0:=by simp
    rw[e1]at hcell1;rw[e2]at hset1;rw[hl1]at hcell1 hfree1 hset1;obtain ⟨HI',HS'⟩:=aB hinv' hset1;have HC':=hid ((hC.o.set c').other (show w.heap.size≠g by omega) i (.int .u64 (r:Int)));have HG':=hid (iR (Lib.grownBy_setB hG.o 0 (.int .u64 (c':Int))) (k:=w.heap.size) (Nat.le_refl _) i (.int .u64 (r:Int)));clear hinv' hb1' hl1 hset1 e1 e2;go_wp2;go_roundw
    case rel=>exact⟨i+1,c',os++[r],by omega,by go_num,HI',HS',HC',HG'⟩
    case measure=>simp[intOf];omega
  · have hi2:i=xs.length:=by omega
    have hB':=hB.o;have hI':=hI.o;rw[hi2,show xs.length+1-xs.length=1 by omega]at hB';rw[hi2]at hI';obtain ⟨HB',HI'⟩:=aB hB' hI';clear hB' hI' hi2;go_wp2;go_ret
    exact⟨rfl,os,c,HI'.o,HB'.o,hC.o,hG.o⟩
