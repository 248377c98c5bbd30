/- texts -/
import Derived.BigQuiet
import Derived.Test.YteihfbkaieemdaaGreatDoorWf
open Go.Proofs.Tryz
namespace Go.Proofs.YteihfbkaieemdaaGreatDoor
open Go.RowKit Go.Gb
def RowB (w:World) (g cap:Nat) (bs:List UInt8):Prop:=∃ cur:Array Value,w.heap[g]? = some (.cells cur 5 (0,0))∧cur.size=cap∧bs.length≤cap∧cur.toList.take bs.length=Lib.byteCells bs
theorem ru {bs:List UInt8}{i:Nat}(h:i<bs.length):(Lib.byteCells bs)[i]? = some (.int .u8 ((bs.getD i 0).toNat:Int)):=by
 simp[Lib.byteCells,List.getD,h]
theorem RowB.cell {w:World}{g cap:Nat}{bs:List UInt8}(h:RowB w g cap bs){i:Nat}(hi:i<bs.length):w.cell? ⟨g,i,none⟩=some (.int .u8 ((bs.getD i 0).toNat:Int)):=by
 obtain⟨cur,h1,h2,h3,h4⟩:=h;have h5:=ru hi;rw[← h4,List.getElem?_take,if_pos hi]at h5;simp only[World.cell?,h1];simpa using h5
theorem RowB.free {w:World}{g cap:Nat}{bs:List UInt8}(h:RowB w g cap bs)(i:Nat):w.frozen? ⟨g,i,none⟩=false:=by
 obtain⟨cur,h1,h2,h3,h4⟩:=h;simp only[World.frozen?,h1];simp
theorem RowB.set {w:World}{g cap:Nat}{bs:List UInt8}(h:RowB w g cap bs)(i:Nat)(v:UInt8):RowB (w.setCell ⟨g,i,none⟩ (.int .u8 (v.toNat:Int))) g cap (bs.set i v):=by
 obtain⟨cur,h1,h2,h3,h4⟩:=h;refine⟨cur.setIfInBounds i (.int .u8 (v.toNat:Int)),?_,by simp[h2],by simpa using h3,?_⟩
 · simp only[World.setCell,Array.getElem?_modify,h1]
   simp
 · rw[List.length_set,Lib.byteCells,List.map_set,Array.toList_setIfInBounds,List.take_set,h4]
   rfl
theorem RowB.of_own {w:World}{B:Nat}{v:Value}{bs:List UInt8}(h:w.ownsRow B 5 1 v bs.length (Lib.byteCells bs))(hp:0<bs.length):∃ g cap,v=.slice (some ⟨g,0,none⟩) bs.length cap∧B≤g∧cap≤maxLen∧RowB w g cap bs:=by
 obtain⟨h1,h2⟩:=h;rcases h2 with⟨h2,h3⟩|⟨g,cap,cur,hv,hg,hh,hn,hc,hs,ht⟩
 · omega
 · rw[Nat.mul_one]at hs ht
   exact⟨g,cap,hv,hg,hc,cur,hh,hs,hn,ht⟩
set_option maxRecDepth 100000
set_option maxHeartbeats 20000000
open Go.Lib (hid)
theorem below_drewN' {B:Nat}{a w:World}(h:Below B a w)(n:Nat):Below B a (w.drewN n):=h.trans ⟨rfl,rfl,rfl,Nat.le_refl _,fun _ _=>rfl⟩
theorem z2E (a1 a2:Option Addr)(n m c1 c2:Nat)(h:n≠m)(w:World) :
 Calls Tryz.prog 207 #[.slice a1 n c1,.slice a2 m c2] w fun e w'=>e=.returned (.bool (decide (n<m)))∧w=w':=by
 have hb:((n:Int) != (m:Int))=true:=bne_iff_ne.2 (by omega);by_cases hlt:n<m
 · go_enter func207,ntmps207
   go_wp2;go_ret
   exact⟨dF (by simp[hlt]),rfl⟩
 · go_enter func207,ntmps207
   go_wp2;go_ret
   exact⟨dF (by simp[hlt]),rfl⟩
def z0U (xs ys:List Nat) (k:Nat):Prop:=∀ j,k≤j→j<xs.length→xs.getD j 0=ys.getD j 0
theorem z0S (b1 o1 c1 b2 o2 c2:Nat)(xs ys:List Nat)(hxy:xs.length=ys.length)(hx:∀ x∈xs,x<BB)(hy:∀ y∈ys,y<BB)(hl:xs.length≤1000000)(w:World)
 (hcx:∀ i,i<xs.length→w.cell? ⟨b1,o1+i,none⟩=some (.int .u64 ((xs.getD i 0:Nat):Int)))
 (hcy:∀ i,i<ys.length→w.cell? ⟨b2,o2+i,none⟩=some (.int .u64 ((ys.getD i 0:Nat):Int))) :
 CR 207 #[.slice (some ⟨b1,o1,none⟩) xs.length c1,.slice (some ⟨b2,o2,none⟩) xs.length c2] w (.bool (decide (aj xs<aj ys))):=by
 obtain ⟨HXY,HX,HY,HCX,HCY⟩:=bK hxy hx hy hcx hcy;clear hxy hx hy hcx hcy;have hb:((xs.length:Int) != (xs.length:Int))=false:=by simp
 go_enter func207,ntmps207
 go_wp2;go_loopw [5] (fun ii wr=>∃ z:Int,-1≤z∧z<xs.length∧ii=.int .i64 z∧Hid (z0U xs ys (z+1).toNat)∧Hid (Below w.heap.size w wr)) (fun ii _=>(intOf ii+1).toNat)
 case atStart=>exact⟨(xs.length:Int)-1,by omega,by omega,rfl,fun j h1 h2=>absurd h1 (by omega),Below.refl _ _⟩
 case round =>
  obtain⟨z,hz1',hz8,rfl,he,hn⟩:=hrel;by_cases hz:0≤z
  · obtain⟨j,rfl⟩:=Int.eq_ofNat_of_zero_le hz
    have hb1:=World.block_lt_of_cell? _ _ (HCX.o j (by omega));have hb2:=World.block_lt_of_cell? _ _ (HCY.o j (by have:=HXY.o;omega));have hcx:=(hn.o.cell (p:=⟨b1,o1+j,none⟩) hb1).trans (HCX.o j (by omega));have hcy:=(hn.o.cell (p:=⟨b2,o2+j,none⟩) hb2).trans (HCY.o j (by have:=HXY.o;omega));have he':=he.o;rw[show((j:Int)+1).toNat=j+1 by omega]at he';have HE:=hid he';clear he' he;obtain⟨x,hxe⟩:∃ x,x=xs.getD j 0:=⟨_,rfl⟩;obtain⟨y,hye⟩:∃ y,y=ys.getD j 0:=⟨_,rfl⟩;rw[← hxe]at hcx;rw[← hye]at hcy;obtain ⟨HXE,HYE⟩:=aB hxe hye;clear hxe hye hb1 hb2;have i1:(0:Int)≤(j:Int):=by omega
    have i2:(j:Int)<(xs.length:Int):=by omega
    by_cases hxy:x=y
    · have hb':((x:Int) != (y:Int))=false:=by rw[bne_eq_false_iff_eq];omega
      have HXY2:=hid hxy;clear hxy;go_wp2;go_quiet (fail)
      have hn2:=hid (below_drewN' hn.o nq);go_wp2;go_roundw
      case rel=>exact⟨(j:Int)-1,by omega,by omega,rfl,(fun k h1 h2=>by
       by_cases hk:k=j
       · subst hk;rw[← HXE.o,← HYE.o,HXY2.o]
       · exact HE.o k (by omega) h2),hn2⟩
      case measure=>simp[intOf]
    · have hb':((x:Int) != (y:Int))=true:=by rw[bne_iff_ne];omega
      go_wp2;go_quiet (fail)
      go_wp2;have hn2:=below_drewN' hn.o nq;have hcx2:(wr.drewN nq).cell? ⟨b1,o1+j,none⟩=some (.int .u64 (x:Int)):=hcx;have hcy2:(wr.drewN nq).cell? ⟨b2,o2+j,none⟩=some (.int .u64 (y:Int)):=hcy;have HN2:=hid hn2;clear hcx hcy hn2;generalize wr.drewN nq=w2 at *;go_quiet (fail)
      have HN3:=hid (below_drewN' HN2.o nq);go_wp2;go_ret
      refine⟨dF ?_,HN3.o⟩;have hjl:j<xs.length:=by omega
      rcases Nat.lt_or_ge x y with hlt|hge
      · have hv:=jR HXY.o hjl HX.o (fun k h1 h2=>HE.o k (by omega) h2) (by rw[← HXE.o,← HYE.o];exact hlt)
        simp[hv];omega
      · have hv:=jR HXY.o.symm (by have:=HXY.o;omega) HY.o (fun k h1 h2=>(HE.o k (by omega) (by have:=HXY.o;omega)).symm) (show ys.getD j 0<xs.getD j 0 by rw[← HXE.o,← HYE.o];omega)
        have hnv:¬ aj xs<aj ys:=by omega
        simp[hnv];omega
  · have hz0':(z+1).toNat=0:=by omega
    have he':=he.o;rw[hz0']at he';have heq:=hid (nQ HXY.o (fun j hj=>he' j (by omega) hj));clear he' hz0';go_wp2;go_ret
    exact⟨dF (by rw[heq.o];simp),hn.o⟩
theorem z0T (a1 a2:Option Addr)(c1 c2:Nat)(w:World) :
 Calls Tryz.prog 207 #[.slice a1 0 c1,.slice a2 0 c2] w fun e w'=>e=.returned (.bool false)∧w=w':=by
 go_enter func207,ntmps207
 go_wp2;refine wp_loop_rounds 1 ?_;rw[rounds_succ];go_wp2;go_ret
 exact⟨rfl,rfl⟩
theorem aZ {k:IntKind}{w:World}{v:Value}{xs:List Nat}(h:Rd k w v xs):∃ a c,v=.slice a xs.length c:=by
 rcases h with⟨rfl,rfl⟩|⟨b,o,c,rfl,_⟩
 · exact⟨none,0,rfl⟩
 · exact⟨_,c,rfl⟩
theorem dQ {k:IntKind}{w:World}{v:Value}{xs:List Nat}(h:Rd k w v xs)(hp:0<xs.length):∃ b o c,v=.slice (some ⟨b,o,none⟩) xs.length c∧xs.length≤c∧c≤maxLen∧b<w.heap.size∧∀ i,i<xs.length→w.cell? ⟨b,o+i,none⟩=some (.int k ((xs.getD i 0:Nat):Int)):=by
 rcases h with⟨_,rfl⟩|h
 · simp at hp
 · exact h
theorem mX (v1 v2:Value)(a b:Nat)(hl:(aa a).length≤1000000)(w:World)(h1:Rd .u64 w v1 (aa a))(h2:Rd .u64 w v2 (aa b)) :
 CR 207 #[v1,v2] w (.bool (decide (a<b))):=by
 by_cases hne:(aa a).length=(aa b).length
 · by_cases h0:(aa a).length=0
   · have ha:a=0:=by have:=aA a;rw[List.length_eq_zero_iff.1 h0]at this;exact this.symm
     have hb:b=0:=by have:=aA b;rw[List.length_eq_zero_iff.1 (show(aa b).length=0 by omega)]at this;exact this.symm
     obtain⟨a1,c1,rfl⟩:=aZ h1;obtain⟨a2,c2,rfl⟩:=aZ h2;rw[← hne,h0];exact(z0T a1 a2 c1 c2 w).mono fun e w' ⟨g1,g2⟩=>⟨by rw[g1,ha,hb];rfl,g2▸Below.refl _ _⟩
   · obtain⟨b1,o1,c1,rfl,_,_,_,r1⟩:=dQ h1 (by omega)
     obtain⟨b2,o2,c2,rfl,_,_,_,r2⟩:=dQ h2 (by omega);have:=z0S b1 o1 c1 b2 o2 c2 (aa a) (aa b) hne (aW a) (aW b) hl w r1 r2;rw[aA,aA]at this;rw[← hne];exact this
 · obtain⟨a1,c1,rfl⟩:=aZ h1
   obtain⟨a2,c2,rfl⟩:=aZ h2;refine(z2E a1 a2 _ _ c1 c2 hne w).mono fun e w' ⟨g1,g2⟩=>⟨?_,g2▸Below.refl _ _⟩;rw[g1];refine dF ?_;rcases Nat.lt_or_ge (aa a).length (aa b).length with h|h
   · have:=eG h
     simp[h,this]
   · have:=eG (show(aa b).length<(aa a).length by omega)
     have h3:¬ (aa a).length<(aa b).length:=by omega
     have h4:¬ a<b:=by omega
     simp[h3,h4]
end Go.Proofs.YteihfbkaieemdaaGreatDoor
set_option maxRecDepth 100000
set_option maxHeartbeats 20000000
open Go.Lib (hid)
namespace Go.Proofs.YteihfbkaieemdaaGreatDoor
open Go.RowKit Go.Gb
def rF (xs os:List Nat) (d i r:Nat):Prop:=os.length=xs.length-i∧(∀ x∈os,x<BB)∧r<d∧aj (xs.drop i)=aj os*d+r
theorem rF.start (xs:List Nat){d:Nat}(hd:0<d):rF xs [] d xs.length 0:=⟨by simp,by simp,hd,by rw[List.drop_of_length_le (Nat.le_refl _)];simp[aj]⟩
theorem rF.step {xs os:List Nat}{d i r:Nat}(h:rF xs os d (i+1) r)(hi:i<xs.length)(hx:∀ x∈xs,x<BB):rF xs ((r*BB+xs.getD i 0) / d :: os) d i ((r*BB+xs.getD i 0)%d):=by
 obtain⟨h1,h2,h3,h4⟩:=h;have hw:=hx _ (bz hi);obtain⟨g1,g2⟩:=z2j (xs.getD i 0) h4 h3;refine⟨by simp[h1];omega,?_,g2,?_⟩
 · intro x hm
   rcases List.mem_cons.1 hm with hm|hm
   · rw[hm];exact nR h3 hw
   · exact h2 x hm
 · rw[fT hi,g1,aj,Nat.add_comm (BB*aj os)]
theorem lZ {v:Value}{k:IntKind}{a b:Int}(h:a=b):Ending.returned (.tuple #[v,.int k a])=.returned (.tuple #[v,.int k b]):=by rw[h]
theorem iP (j:Nat):List.replicate (j+1) (0:Nat)=List.replicate j 0++[0]:=by rw[List.replicate_succ']
theorem tK (b1 o1 c1:Nat)(xs:List Nat)(d:Nat)(hd:0<d)(hdB:d≤1000000000)(hx:∀ x∈xs,x<BB)(hl:xs.length≤100000)(w:World)(hb1:b1<w.heap.size)
 (hcx:∀ i,i<xs.length→w.cell? ⟨b1,o1+i,none⟩=some (.int .u64 ((xs.getD i 0:Nat):Int))) :
 Calls Tryz.prog 242 #[.slice (some ⟨b1,o1,none⟩) xs.length c1,.int .u64 (d:Int)] w fun e w' =>
  ∃ v,e=.returned (.tuple #[v,.int .u64 ((aj xs%d:Nat):Int)])∧Own .u64 131 w.heap.size w' v (aa (aj xs / d))∧Below w.heap.size w w':=by
 obtain⟨i0,hi,hz0,hz1,hz2⟩:=info_parts Tryz.info131;have HX:=hid hx;have HCX:=hid hcx;have hd1:(1:Int)≤(d:Int):=by omega
 have hd2:(d:Int)≤1000000000:=by omega
 have hdz:((d:Int)==0)=false:=beq_eq_false_iff_ne.2 (by omega);have HD:=hid hd;have HDB:=hid hdB;clear hx hcx hd hdB;go_enter func242,ntmps242
 go_wp2_with (at_make;refine wpList_make_full _ rfl _ _ 176 rfl w.heap.size 131 i0 (.int .u64 0) 1 underlying176 hi hz0 hz1 _ _ _ _ xs.length rfl rfl (by omega) (by omega) ?b2 ?b3 (Nat.le_refl _) ?_)
 case b2=>rw[hz2];omega
 case b3=>unfold maxLen;omega
 intro w0 hown0 hgrow0;have wu:=hid (show Blk w0 w.heap.size (List.replicate xs.length 0) from Blk.of_made hown0 (dS _));have HN0:=hid ((Below.refl w.heap.size w).grown hgrow0 (Nat.le_refl _) (fun k h=>by cases h));clear hown0 hgrow0;go_wp2;go_loopw [7,8] (fun rr ii wr=>∃ (z:Int) (r:Nat) (os:List Nat),-1≤z∧z<xs.length∧ii=.int .i64 z∧rr=.int .u64 (r:Int)∧Hid (rF xs os d (z+1).toNat r)∧Hid (Blk wr w.heap.size (List.replicate (z+1).toNat 0++os))∧Hid (Below w.heap.size w wr)) (fun _ ii _=>(intOf ii+1).toNat)
 case atStart=>exact⟨(xs.length:Int)-1,0,[],by omega,by omega,rfl,rfl,by rw[show((xs.length:Int)-1+1).toNat=xs.length by omega];exact rF.start xs HD.o,by rw[show((xs.length:Int)-1+1).toNat=xs.length by omega,List.append_nil];exact wu,HN0⟩
 case round =>
  obtain⟨z,r,os,hz1',hz8,rfl,rfl,hI,hB,hn⟩:=hrel;by_cases hz:0≤z
  · obtain⟨j,rfl⟩:=Int.eq_ofNat_of_zero_le hz
    have hj:j<xs.length:=by omega
    have hI':=hI.o;have hB':=hB.o;rw[show((j:Int)+1).toNat=j+1 by omega]at hI' hB';have hcx:=(hn.o.cell (p:=⟨b1,o1+j,none⟩) hb1).trans (HCX.o j hj);have hxw:=HX.o _ (bz hj);have hst:=hI'.step hj HX.o;have hr:=hI'.2.2.1;rw[iP,List.append_assoc]at hB';have e1:(List.replicate j 0++([0]++os)).getD j 0=0:=by simp[List.getD]
    have hcell:=hB'.cell (i:=j) (by simp);have hfree:=hB'.free j;have hset:=hB'.set j ((r*BB+xs.getD j 0) / d);have e2:(List.replicate j 0++([0]++os)).set j ((r*BB+xs.getD j 0) / d)=List.replicate j 0++((r*BB+xs.getD j 0) / d :: os):=by simp
    rw[e1]at hcell;rw[e2]at hset;have hbel:=hn.o.setCell (p:=⟨w.heap.size,j,none⟩) (Nat.le_refl _) (.int .u64 (((r*BB+xs.getD j 0) / d:Nat):Int));obtain ⟨HS,HI,HBL⟩:=ak hset hst hbel;clear hI' hB' hst e1 e2 hset hbel hI hB hn;generalize xs.getD j 0=x at *;rw[aH]at hxw;have hr2:r<1000000000:=by have:=HDB.o;omega
    have hq:((r:Int)*1000000000+(x:Int)) / (d:Int)=(((r*BB+x) / d:Nat):Int):=by rw[aH];rfl
    have hm:((r:Int)*1000000000+(x:Int))%(d:Int)=(((r*BB+x)%d:Nat):Int):=by rw[aH];rfl
    obtain ⟨HQ,HM⟩:=aB hq hm;have k1:(x:Int)≤999999999:=by omega
    have k2:(r:Int)≤999999999:=by omega
    clear hq hm hxw hr hr2;go_wp2;go_roundw
    case rel=>exact⟨(j:Int)-1,(r*BB+x)%d,(r*BB+x) / d :: os,by omega,by omega,rfl,by rw[← HM.o],by rw[show((j:Int)-1+1).toNat=j by omega];exact HI,by rw[show((j:Int)-1+1).toNat=j by omega,HQ.o];exact HS,by rw[HQ.o];exact HBL⟩
    case measure=>simp[intOf]
  · have hz0':(z+1).toNat=0:=by omega
    have hI':=hI.o;have hB':=hB.o;rw[hz0']at hI' hB';obtain⟨g1,g2,g3,g4⟩:=hI';rw[List.drop_zero]at g4;rw[List.replicate_zero,List.nil_append]at hB';have hown:=Blk.own hB' (Nat.le_refl _) (by unfold maxLen;omega) os.length (Nat.le_refl _);rw[List.take_of_length_le (Nat.le_refl _)]at hown;have hq:aj os=aj xs / d:=by rw[g4,Nat.add_comm,Nat.add_mul_div_right _ _ HD.o,Nat.div_eq_of_lt g3,Nat.zero_add]
    have hm:r=aj xs%d:=by rw[g4,Nat.add_comm,Nat.add_mul_mod_self_right,Nat.mod_eq_of_lt g3]
    have htr:=fI 131 w.heap.size _ os g2 wr hown;rw[g1,Nat.sub_zero,hq]at htr;obtain ⟨HTR,HM⟩:=aB htr hm;clear g1 g2 g3 g4 hB' hown hq htr hz0' hm;go_wp2_with fail
    refine HTR.o.mono ?_;rintro e w2 ⟨v',rfl,hown,rfl⟩;go_wp2;go_ret2
    exact⟨v',lZ (by rw[HM.o]),hown,hn.o⟩
theorem yM (b o c:Nat)(xs:List Nat)(hl:xs.length≤100000)(w:World)(hb:b<w.heap.size)
 (hcx:∀ i,i<xs.length→w.cell? ⟨b,o+i,none⟩=some (.int .u64 ((xs.getD i 0:Nat):Int))) :
 Calls Tryz.prog 184 #[.slice (some ⟨b,o,none⟩) xs.length c] w fun e w'=>∃ v,e=.returned v∧Own .u64 131 w.heap.size w' v xs∧Below w.heap.size w w':=by
 obtain⟨i0,hi,hz0,hz1,hz2⟩:=info_parts Tryz.info131;have HCX:=hid hcx;clear hcx;have hne:∀ W,(binOp .eql 176 (.slice (some ⟨b,o,none⟩) xs.length c) (.slice none 0 0)).run Tryz.prog W=.ok (.bool false) W:=fun W=>Lib.run_eql_slice_nil (P:=Tryz.prog) W 176 131 (some ⟨b,o,none⟩) xs.length c 0 0 underlying176;have hown:(w.alloc (.cells #[] 131)).ownsRow w.heap.size 131 1 (.slice (some ⟨w.heap.size,0,none⟩) 0 0) 0 []:=World.ownsRow_made w #[] 0 (Nat.le_refl _) (by unfold maxLen;omega) rfl;have HO:=hid hown
 have hnews:∀ j u,(cls .u64 xs)[j]? = some u→(w.alloc (.cells #[] 131)).cell? ((⟨b,o,none⟩:Addr).add j)=some u:=by
  intro j u hj
  have hjl:j<xs.length:=by
   have:=(List.getElem?_eq_some_iff.1 hj).1;rwa [eO]at this
  rw[Lib.add_plain,World.cell?_alloc_lt _ _ _ hb,HCX.o j hjl,← hj,jJ hjl]
 have HN:=hid hnews;clear hown hnews;go_enter func184,ntmps184
 go_wp2_with (at_builtin;refine wpList_append_own _ rfl _ _ 176 rfl w.heap.size 131 i0 (.int .u64 0) 1 8 underlying176 hi hz0 hz1 hz2 rfl (by decide) _ _ _ rfl HO.o ⟨b,o,none⟩ xs.length c (cls .u64 xs) rfl (by rw[eO,Nat.mul_one]) HN.o ?h1 (by unfold maxLen;omega) (by omega) (by simp) ?_)
 case h1=>intro u hu;obtain⟨n,_,rfl⟩:=List.mem_map.1 hu;rfl
 intro v' w1 hown' hgrow _;have hb2:=hid (((Below.refl w.heap.size w).alloc (Nat.le_refl _) (.cells #[] 131)).grown hgrow (by simp) (fun k hk=>by cases hk;exact Nat.le_refl _));have HO':=hid hown';clear hown' hgrow hne;go_wp2;go_ret
 exact⟨v',rfl,HO'.o,hb2.o⟩
theorem yN (w:World):Calls Tryz.prog 184 #[.slice none 0 0] w fun e w'=>e=.returned (.slice none 0 0)∧w=w':=by
 have hne:∀ W,(binOp .eql 176 (.slice none 0 0) (.slice none 0 0)).run Tryz.prog W=.ok (.bool true) W:=fun W=>Lib.run_eql_slice_nil (P:=Tryz.prog) W 176 131 none 0 0 0 0 underlying176;go_enter func184,ntmps184
 go_wp2_with fail
 go_ret
 exact⟨rfl,rfl⟩
theorem o9 (v:Value)(xs:List Nat)(hl:xs.length≤100000)(w:World)(h:Rd .u64 w v xs) :
 Calls Tryz.prog 184 #[v] w fun e w'=>∃ v',e=.returned v'∧Own .u64 131 w.heap.size w' v' xs∧Below w.heap.size w w':=by
 rcases h with⟨rfl,rfl⟩|⟨b,o,c,rfl,_,_,hb,hc⟩
 · exact(yN w).mono fun e w' ⟨h1,h2⟩=>⟨_,h1,Own.nil _ _ _ _,h2▸Below.refl _ _⟩
 · exact yM b o c xs hl w hb hc
theorem vQ (v1 v2:Value)(a b:Nat)(hab:a<b)(hl:(aa a).length≤100000)(w:World)(h1:Rd .u64 w v1 (aa a))(h2:Rd .u64 w v2 (aa b)) :
 Calls Tryz.prog 224 #[v1,v2] w fun e w'=>∃ r,e=.returned (.tuple #[.slice none 0 0,r])∧Own .u64 131 w.heap.size w' r (aa a)∧Below w.heap.size w w':=by
 have hless:=mX v1 v2 a b (by omega) w h1 h2;rw[show decide (a<b)=true by simpa using hab]at hless;obtain ⟨HL,H1,Hl⟩:=ak hless h1 hl;clear hless h1 h2 hab hl;go_enter func224,ntmps224
 go_wp2_with fail
 refine HL.o.mono ?_;rintro e w1 ⟨rfl,hb1⟩;have hcl:=hid (o9 v1 (aa a) Hl.o w1 (H1.o.below hb1));have w9:=hid hb1;clear hb1;go_wp2_with fail
 refine hcl.o.mono ?_;rintro e w2 ⟨r,rfl,hown,hb2⟩;have HO:=hid (hown.mono w9.o.size);have u6:=hbt w9 hb2;clear hown hb2;go_wp2;go_ret2
 exact⟨r,rfl,HO.o,u6.o⟩
theorem yA (r:Nat):aa (aj [r])=aa r:=by simp[aj]
theorem vO (v1 v2:Value)(a b:Nat)(hab:¬ a<b)(hlb:(aa b).length=1)(hl:(aa a).length≤100000)(w:World)(h1:Rd .u64 w v1 (aa a))(h2:Rd .u64 w v2 (aa b)) :
 Calls Tryz.prog 224 #[v1,v2] w fun e w'=>∃ q r,e=.returned (.tuple #[q,r])∧Own .u64 131 w.heap.size w' q (aa (a / b))∧Own .u64 131 w.heap.size w' r (aa (a%b))∧Below w.heap.size w w':=by
 have hb0:b≠0:=by intro h;rw[h,aV]at hlb;simp at hlb
 have hbB:b<BB:=by have:=dL b;rwa [hlb,Nat.pow_one]at this
 have hdb:(aa b).getD 0 0=b:=by
  have:=aA b;rw[bU hb0]at hlb ⊢;have e:aa (b / BB)=[]:=List.length_eq_zero_iff.1 (by simpa using hlb);simp[Nat.mod_eq_of_lt hbB]
 have hless:=mX v1 v2 a b (by omega) w h1 h2;rw[show decide (a<b)=false by simpa using hab]at hless;have ha0:a≠0:=by omega
 obtain⟨b1,o1,c1,rfl,_,_,k1,r1⟩:=dQ h1 (List.length_pos_iff.2 (by rw[bU ha0];simp));obtain⟨b2,o2,c2,rfl,_,_,k2,r2⟩:=dQ h2 (by omega);have r20:=r2 0 (by omega);rw[hdb,Nat.add_zero]at r20;rw[hlb]at hless ⊢;obtain ⟨HL,HR1,HR20,Hl⟩:=aJ hless r1 r20 hl;have Hb0:=hid (show 0<b by omega);have HbB:=hid hbB;clear hless h1 h2 hab hl r1 r2 r20 hdb hlb hb0 hbB ha0;go_enter func224,ntmps224
 go_wp2_with fail
 refine HL.o.mono ?_;rintro e w1 ⟨rfl,hb1⟩;have hc20:=(hb1.cell (p:=⟨b2,o2,none⟩) k2).trans HR20.o;have hdw:=hid (tK b1 o1 c1 (aa a) b Hb0.o (by have:=aH;have:=HbB.o;omega) (aW a) Hl.o w1 (Nat.lt_of_lt_of_le k1 hb1.size) (fun i hi=>(hb1.cell (p:=⟨b1,o1+i,none⟩) k1).trans (HR1.o i hi)));have w9:=hid hb1;clear hb1;go_wp2_with fail
 refine hdw.o.mono ?_;rintro e w2 ⟨q,rfl,hown,hb2⟩;rw[aA]at hown ⊢;have HO:=hid (hown.mono w9.o.size);have u6:=hbt w9 hb2;clear hown hb2 hc20 hdw HL;have hrB:a%b<BB:=Nat.lt_trans (Nat.mod_lt _ Hb0.o) HbB.o;have hblk:Blk (w2.alloc (.cells #[.int .u64 ((a:Int)%(b:Int))] 131)) w2.heap.size [a%b]:=Blk.alloc [a%b] _ (by simp[cls]);have hown2:=hblk.own (B:=w.heap.size) u6.o.size (by unfold maxLen;simp) 1 (by simp);have htr:=fI 131 w.heap.size _ [a%b] (by intro x hx;have:=List.mem_singleton.1 hx;omega) (w2.alloc (.cells #[.int .u64 ((a:Int)%(b:Int))] 131)) hown2;rw[yA]at htr;have HTR:=hid htr;have HO2:=hid (HO.o.below ((Below.refl w2.heap.size w2).alloc (Nat.le_refl _) (.cells #[.int .u64 ((a:Int)%(b:Int))] 131)));have wm:=hid (u6.o.alloc u6.o.size (.cells #[.int .u64 ((a:Int)%(b:Int))] 131));clear hrB hblk hown2 htr;go_wp2_with fail
 refine HTR.o.mono ?_;rintro e w3 ⟨r,rfl,hr,rfl⟩;go_wp2;go_ret2
 exact⟨q,r,rfl,HO2.o,hr,wm.o⟩
open Go.Lib (hid)
theorem lh (w:World):Car (w.alloc (.cells #[.int .u64 0] 261)) w.heap.size 0:=by unfold Car;rw[heap_alloc_new];rfl
theorem dI {l:List UInt8}(h:l.all isD=true)(k:Nat)(hl:l.length≤9*k):(aa (aM l)).length≤k:=by
 refine bR (Nat.lt_of_lt_of_le (gV l h) ?_);rw[show BB=10^9 from by rw[aH],← Nat.pow_mul];exact Nat.pow_le_pow_right (by decide) hl
theorem rP (v1 v2:Value)(a b:Nat)(hab:b≤a)(ha:a≠0)(hl:(aa a).length≤100000)(w:World)(h1:Rd .u64 w v1 (aa a))(h2:Rd .u64 w v2 (aa b)) :
 Calls Tryz.prog 248 #[v1,v2] w fun e w'=>∃ v,e=.returned v∧Own .u64 131 w.heap.size w' v (aa (a-b))∧Below w.heap.size w w':=by
 obtain⟨b1,o1,c1,rfl,_,_,k1,r1⟩:=dQ h1 (List.length_pos_iff.2 (by rw[bU ha];simp));have hb0:=(Below.refl w.heap.size w).alloc (Nat.le_refl _) (.cells #[.int .u64 0] 261)
 have hj:Calls Tryz.prog 255 #[.slice (some ⟨b1,o1,none⟩) (aa a).length c1,v2,.func (.func 256) #[.pointer (some ⟨w.heap.size,0,none⟩)] #[]] (w.alloc (.cells #[.int .u64 0] 261)) fun e w' =>
  e=.returned (.slice (some ⟨w.heap.size+1,0,none⟩) (aa a).length ((aa a).length+1))∧∃ (os:List Nat) (c:Nat),eQ (aa a) (aa b) os (aa a).length c∧Blk w' (w.heap.size+1) (os++[0])∧Car w' w.heap.size c∧(w.alloc (.cells #[.int .u64 0] 261)).grownBy w' (some w.heap.size):=by
  have hcx:∀ i,i<(aa a).length→(w.alloc (.cells #[.int .u64 0] 261)).cell? ⟨b1,o1+i,none⟩=some (.int .u64 (((aa a).getD i 0:Nat):Int)):=fun i hi=>(hb0.cell (p:=⟨b1,o1+i,none⟩) k1).trans (r1 i hi);have hz:(w.alloc (.cells #[.int .u64 0] 261)).heap.size=w.heap.size+1:=by simp
  rcases h2 with⟨rfl,h2⟩|⟨b2,o2,c2,rfl,_,_,k2,r2⟩
  · have:=oC eQ w.heap.size b1 o1 c1 none 0 (aa a) (aa b) hl (w.alloc (.cells #[.int .u64 0] 261)) (wU _ _ _ (aW a) (aW b)) (eQ.start _ _) (fun os i c h=>h.1) (lh w) (by rw[hz];omega) (by omega) hcx (by rw[h2];simp)
    rw[hz,h2]at this;rw[h2];exact this
  · have:=nI eQ w.heap.size b1 o1 c1 b2 o2 c2 (aa a) (aa b) hl (w.alloc (.cells #[.int .u64 0] 261)) (wU _ _ _ (aW a) (aW b)) (eQ.start _ _) (fun os i c h=>h.1) (lh w) (by rw[hz];omega) (by omega) hcx (by rw[hz];omega) (by omega) (fun i hi=>(hb0.cell (p:=⟨b2,o2+i,none⟩) k2).trans (r2 i hi))
    rw[hz]at this;exact this
 obtain ⟨HJ,HAB,HL⟩:=ak hj hab hl;clear hj h1 h2 r1 hb0 hab ha hl;go_enter func248,ntmps248
 go_wp2_with fail
 refine HJ.o.mono ?_;rintro e w1 ⟨rfl,os,c,hd,hblk,_,hg⟩;obtain⟨g1,g2⟩:=hd.done (aS HAB.o) (by rw[aA,aA];exact HAB.o);rw[aA,aA]at g1;have hlen:=hd.1;have hown:=hblk.own (B:=w.heap.size) (by omega) (by have:=HL.o;unfold maxLen;simp;omega) os.length (by simp);rw[List.take_left,hlen,List.length_append,List.length_singleton,hlen]at hown;have htr:=fI 131 w.heap.size _ os g2 w1 hown;rw[g1]at htr;have HTR:=hid htr;have HB:=hid (((Below.refl w.heap.size w).alloc (Nat.le_refl _) (.cells #[.int .u64 0] 261)).grown hg (by simp) (fun k hk=>by cases hk;exact Nat.le_refl _));clear hd hblk hg g1 g2 hown htr hlen;go_wp2_with fail
 refine HTR.o.mono ?_;rintro e w2 ⟨v,rfl,hown,rfl⟩;go_wp2;go_ret
 exact⟨v,rfl,hown,HB.o⟩
theorem mZ (u:Int)(h0:0≤u)(h1:u<18446744073709551616)(w:World)(htab:Tb w) :
 CR 223 #[.int .u64 u] w (.string ⟨(Lib.decDigits u.toNat).toArray⟩):=by
 obtain⟨n,rfl⟩:=Int.eq_ofNat_of_zero_le h0;exact ng n (by omega) w htab
theorem iD (a b:Nat):(aa (a*b)).length≤(aa a).length+(aa b).length:=by
 refine bR ?_;rw[Nat.pow_add];rcases Nat.eq_zero_or_pos b with h|h
 · rw[h,Nat.mul_zero];exact Nat.mul_pos (Nat.pow_pos bS) (Nat.pow_pos bS)
 · exact Nat.mul_lt_mul_of_lt_of_le (dL a) (Nat.le_of_lt (dL b)) (Nat.pow_pos bS)
def St (l:List UInt8):Value:=.string ⟨l.toArray⟩
theorem bO {l:List UInt8}(h:vld l=true):l.all isD=true:=((gN l).1 h).2.1
theorem z3g {s:ByteArray}(h:vld s.data.toList=true)(hl:s.size≤18):aM s.data.toList<1000000000000000000:=by
 have h1:=gV _ (bO h);have h2:10^s.data.toList.length≤10^18:=Nat.pow_le_pow_right (by decide) (by rw[aF];exact hl);omega
theorem z3f {s:ByteArray}(h:vld s.data.toList=true)(hl:s.size≤19):aM s.data.toList<10000000000000000000:=by
 have h1:=gV _ (bO h);have h2:10^s.data.toList.length≤10^19:=Nat.pow_le_pow_right (by decide) (by rw[aF];exact hl);omega
theorem z0V (a b:ByteArray)(ha:vld a.data.toList=true)(hb:vld b.data.toList=true)(hla:a.size≤18)(hlb:b.size≤18)(w:World)(htab:Tb w) :
 CR 234 #[.string a,.string b] w (.tuple #[St (Lib.decDigits (aM a.data.toList+aM b.data.toList)),.int .i64 0]):=by
 obtain ⟨HA,HB,HT⟩:=ak ha hb htab;have Hla:=hid (show a.size≤maxLen by unfold maxLen;omega);have Hlb:=hid (show b.size≤maxLen by unfold maxLen;omega);have hba:=z3g ha hla;have hbb:=z3g hb hlb;have HBA:=hid hba;have HBB:=hid hbb;clear ha hb htab hba hbb;go_enter func234,ntmps234
 go_wp2_with fail
 refine(bX a HA.o Hla.o _).mono ?_;rintro e w' ⟨rfl,rfl⟩;go_wp2_with fail
 refine(bX b HB.o Hlb.o _).mono ?_;rintro e w' ⟨rfl,rfl⟩;go_wp2_with fail
 refine(ig a HA.o (by omega) _).mono ?_;rintro e w1 ⟨rfl,hb1⟩;have w9:=hid hb1;clear hb1;go_wp2_with fail
 refine(ig b HB.o (by omega) _).mono ?_;rintro e w2 ⟨rfl,hb2⟩;have u6:=hbt w9 hb2;clear hb2;generalize hxx:aM a.data.toList=x at *;generalize hyy:aM b.data.toList=y at *;have HXX:=hid hxx;have HYY:=hid hyy;clear hxx hyy;have hx:=HBA.o;have hy:=HBB.o;have hsum:IntKind.u64.wrap ((x:Int)+(y:Int))=(x:Int)+(y:Int):=IntWalk.u64_in _ (by omega);have hwr:=hid (mZ ((x:Int)+(y:Int)) (by omega) (by omega) w2 (HT.o.on u6.o));clear hx hy;go_wp2_with fail
 refine hwr.o.mono ?_;rintro e w3 ⟨rfl,hb3⟩;rw[show((x:Int)+(y:Int)).toNat=x+y by omega];have wm:=hbt u6 hb3;clear hb3 hsum;go_wp2;go_ret2
 refine⟨?_,wm.o⟩;rw[HXX.o,HYY.o];rfl
theorem z4c {a b:ByteArray}(h:(vld a.data.toList&&vld b.data.toList)=false):vld a.data.toList=false∨(vld a.data.toList=true∧vld b.data.toList=false):=by
 cases ha:vld a.data.toList with
 | false=>exact Or.inl rfl
 | true=>right;rw[ha]at h;exact⟨rfl,by simpa using h⟩
theorem z4g (a b:ByteArray)(ha:vld a.data.toList=true)(hb:vld b.data.toList=true)(hla:a.size≤100000)(hlb:b.size≤100000)(w:World)(htab:Tb w) :
 CR 202 #[.string a,.string b] w (.tuple #[St (Lib.decDigits (aM a.data.toList*aM b.data.toList)),.int .i64 0]):=by
 obtain ⟨HA,HB,HT⟩:=ak ha hb htab;have Hla:=hid (show a.size≤maxLen by unfold maxLen;omega);have Hlb:=hid (show b.size≤maxLen by unfold maxLen;omega);have hda:=hid (dI (bO ha) 100000 (by rw[aF];omega));have hdb:=hid (dI (bO hb) 100000 (by rw[aF];omega));by_cases hs:a.size+b.size≤19
 · have h1:=gV _ (bO ha)
   have h2:=gV _ (bO hb)
   have h3:aM a.data.toList*aM b.data.toList<10000000000000000000:=by
    have h4:aM a.data.toList*aM b.data.toList≤aM a.data.toList*10^b.data.toList.length:=Nat.mul_le_mul_left _ (Nat.le_of_lt h2);have h5:aM a.data.toList*10^b.data.toList.length<10^a.data.toList.length*10^b.data.toList.length:=Nat.mul_lt_mul_of_pos_right h1 (Nat.pow_pos (by decide));rw[← Nat.pow_add]at h5;have h6:10^(a.data.toList.length+b.data.toList.length)≤10^19:=Nat.pow_le_pow_right (by decide) (by rw[aF,aF];exact hs);omega
   have H3:=hid h3;clear ha hb htab h1 h2 h3;go_enter func202,ntmps202
   go_wp2_with fail
   refine(bX a HA.o Hla.o _).mono ?_;rintro e w' ⟨rfl,rfl⟩;go_wp2_with fail
   refine(bX b HB.o Hlb.o _).mono ?_;rintro e w' ⟨rfl,rfl⟩;go_wp2_with fail
   refine(ig a HA.o (by omega) _).mono ?_;rintro e w1 ⟨rfl,hb1⟩;have w9:=hid hb1;clear hb1;go_wp2_with fail
   refine(ig b HB.o (by omega) _).mono ?_;rintro e w2 ⟨rfl,hb2⟩;have u6:=hbt w9 hb2;clear hb2;generalize hxx:aM a.data.toList=x at *;generalize hyy:aM b.data.toList=y at *;have HXX:=hid hxx;have HYY:=hid hyy;clear hxx hyy;obtain⟨p,hp⟩:∃ p:Nat,p=x*y:=⟨_,rfl⟩;have hpi:(x:Int)*(y:Int)=(p:Int):=by rw[hp];exact(Int.natCast_mul _ _).symm
   have hpb:=H3.o;rw[← hp]at hpb;have hw1:IntKind.u64.wrap (p:Int)=(p:Int):=IntWalk.u64_in _ (by omega);have hwr:=hid (mZ (p:Int) (by omega) (by omega) w2 (HT.o.on u6.o));have HP:=hid hp;clear hpb hp;go_wp2_with fail
   refine hwr.o.mono ?_;rintro e w3 ⟨rfl,hb3⟩;rw[Int.toNat_natCast,HP.o];have wm:=hbt u6 hb3;clear hb3 hw1 hpi;go_wp2;go_ret2
   refine⟨?_,wm.o⟩;rw[HXX.o,HYY.o];rfl
 · have hra:=hid (bO ha)
   have hrb:=hid (bO hb)
   have hlp:(aa (aM a.data.toList*aM b.data.toList)).length≤100000:=by
    have g1:=dI (bO ha) 20000 (by rw[aF];omega);have g2:=dI (bO hb) 20000 (by rw[aF];omega);have g3:=iD (aM a.data.toList) (aM b.data.toList);omega
   have HLP:=hid hlp;clear ha hb htab hlp;go_enter func202,ntmps202
   go_wp2_with fail
   refine(bX a HA.o Hla.o _).mono ?_;rintro e w' ⟨rfl,rfl⟩;go_wp2_with fail
   refine(bX b HB.o Hlb.o _).mono ?_;rintro e w' ⟨rfl,rfl⟩;go_wp2_with fail
   refine(gH a hra.o hla _).mono ?_;rintro e w1 ⟨v1,rfl,ho1,hb1⟩;have w9:=hid hb1;have HO1:=hid ho1;clear hb1 ho1;go_wp2_with fail
   refine(gH b hrb.o hlb _).mono ?_;rintro e w2 ⟨v2,rfl,ho2,hb2⟩;have u6:=hbt w9 hb2;have hm:=hid (iF v1 v2 _ _ hda.o hdb.o w2 (HO1.o.rd.below hb2) ho2.rd);clear hb2 ho2;go_wp2_with fail
   refine hm.o.mono ?_;rintro e w3 ⟨v3,rfl,ho3,hb3⟩;have wm:=hbt u6 hb3;have hwr:=hid (iX v3 _ HLP.o w3 ho3.rd (HT.o.on wm.o));clear hb3 ho3;go_wp2_with fail
   refine hwr.o.mono ?_;rintro e w4 ⟨rfl,hb4⟩;have wo:=hbt wm hb4;clear hb4;go_wp2;go_ret2
   exact⟨rfl,wo.o⟩
theorem z4f (a b:ByteArray)(ha:vld a.data.toList=true)(hb:vld b.data.toList=true)(hab:aM b.data.toList≤aM a.data.toList)(hla:a.size≤100000)(hlb:b.size≤100000)(w:World)(htab:Tb w) :
 CR 233 #[.string a,.string b] w (.tuple #[St (Lib.decDigits (aM a.data.toList-aM b.data.toList)),.int .i64 0]):=by
 obtain ⟨HA,HB,HT⟩:=ak ha hb htab;have Hla:=hid (show a.size≤maxLen by unfold maxLen;omega);have Hlb:=hid (show b.size≤maxLen by unfold maxLen;omega);have hda:=hid (dI (bO ha) 100000 (by rw[aF];omega))
 have hlen:b.size≤a.size:=by
  rcases Nat.lt_or_ge a.size b.size with h|h
  · have:=eX ha hb (by rw[aF,aF];exact h)
    omega
  · exact h
 have hcmp:=hid (gY a b ha hb);have hc0:¬ cmpN (aM a.data.toList) (aM b.data.toList)<0:=by unfold cmpN;split<;>(try split)<;>omega
 by_cases hs:a.size≤19
 · have h1:=hid (z3f ha hs)
   have HAB:=hid hab;clear ha hb htab hab;go_enter func233,ntmps233
   go_wp2_with fail
   refine(bX a HA.o Hla.o _).mono ?_;rintro e w' ⟨rfl,rfl⟩;go_wp2_with fail
   refine(bX b HB.o Hlb.o _).mono ?_;rintro e w' ⟨rfl,rfl⟩;go_wp2_with fail
   refine(hcmp.o _).mono ?_;rintro e w' ⟨rfl,rfl⟩;generalize cmpN (aM a.data.toList) (aM b.data.toList)=cc at *;go_wp2_with fail
   refine(ig a HA.o (by omega) _).mono ?_;rintro e w1 ⟨rfl,hb1⟩;have w9:=hid hb1;clear hb1;go_wp2_with fail
   refine(ig b HB.o (by omega) _).mono ?_;rintro e w2 ⟨rfl,hb2⟩;have u6:=hbt w9 hb2;clear hb2;generalize hxx:aM a.data.toList=x at *;generalize hyy:aM b.data.toList=y at *;have HXX:=hid hxx;have HYY:=hid hyy;clear hxx hyy;have hxy:=HAB.o;have hx:=h1.o;have hw1:IntKind.u64.wrap ((x:Int)-(y:Int))=(x:Int)-(y:Int):=IntWalk.u64_in _ (by omega);have hwr:=hid (mZ ((x:Int)-(y:Int)) (by omega) (by omega) w2 (HT.o.on u6.o));clear hx hxy;go_wp2_with fail
   refine hwr.o.mono ?_;rintro e w3 ⟨rfl,hb3⟩;rw[show((x:Int)-(y:Int)).toNat=x-y by have:=HAB.o;omega];have wm:=hbt u6 hb3;clear hb3 hw1;go_wp2;go_ret2
   refine⟨?_,wm.o⟩;rw[HXX.o,HYY.o];rfl
 · have hra:=hid (bO ha)
   have hrb:=hid (bO hb)
   have hne:aM a.data.toList≠0:=by
    intro h0;have:=jV _ ha;rw[h0,Lib.decDigits_one (by decide)]at this;have h9:a.data.toList.length=1:=by rw[← this];rfl
    rw[aF]at h9;omega
   have HNE:=hid hne;have hlp:=hid (show(aa (aM a.data.toList-aM b.data.toList)).length≤100000 from Nat.le_trans (aS (Nat.sub_le _ _)) hda.o);have HAB:=hid hab;clear ha hb htab hab hne;go_enter func233,ntmps233
   go_wp2_with fail
   refine(bX a HA.o Hla.o _).mono ?_;rintro e w' ⟨rfl,rfl⟩;go_wp2_with fail
   refine(bX b HB.o Hlb.o _).mono ?_;rintro e w' ⟨rfl,rfl⟩;go_wp2_with fail
   refine(hcmp.o _).mono ?_;rintro e w' ⟨rfl,rfl⟩;generalize cmpN (aM a.data.toList) (aM b.data.toList)=cc at *;go_wp2_with fail
   refine(gH a hra.o hla _).mono ?_;rintro e w1 ⟨v1,rfl,ho1,hb1⟩;have w9:=hid hb1;have HO1:=hid ho1;clear hb1 ho1;go_wp2_with fail
   refine(gH b hrb.o hlb _).mono ?_;rintro e w2 ⟨v2,rfl,ho2,hb2⟩;have u6:=hbt w9 hb2;have hm:=hid (rP v1 v2 _ _ HAB.o HNE.o hda.o w2 (HO1.o.rd.below hb2) ho2.rd);clear hb2 ho2;go_wp2_with fail
   refine hm.o.mono ?_;rintro e w3 ⟨v3,rfl,ho3,hb3⟩;have wm:=hbt u6 hb3;have hwr:=hid (iX v3 _ hlp.o w3 ho3.rd (HT.o.on wm.o));clear hb3 ho3;go_wp2_with fail
   refine hwr.o.mono ?_;rintro e w4 ⟨rfl,hb4⟩;have wo:=hbt wm hb4;clear hb4;go_wp2;go_ret2
   exact⟨rfl,wo.o⟩
