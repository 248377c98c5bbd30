/- texts -/
import Derived.Test.YtikihamjpenboaaGreatDoorMz6q
import Derived.Test.YtikihamjpenboaaGreatDoorMz8q
open Go.Proofs.Tryz
namespace Go.Proofs.YtikihamjpenboaaGreatDoor
open Go.RowKit Go.Gb
def RowB (w:World) (g cap:Nat) (bs:List UInt8):Prop:=∃ cur:Array Value,w.heap[g]? = some (.cells cur 5 (0,0))∧cur.size=cap∧bs.length≤cap∧cur.toList.take bs.length=Lib.byteCells bs
theorem sZ {bs:List UInt8}{i:Nat}(h:i<bs.length):(Lib.byteCells bs)[i]? = some (.int .u8 ((bs.getD i 0).toNat:Int)):=by
 simp[Lib.byteCells,List.getD,h]
theorem RowB.cell {w:World}{g cap:Nat}{bs:List UInt8}(h:RowB w g cap bs){i:Nat}(hi:i<bs.length):w.cell? ⟨g,i,none⟩=some (.int .u8 ((bs.getD i 0).toNat:Int)):=by
 obtain⟨cur,h1,h2,h3,h4⟩:=h;have h5:=sZ hi;rw[← h4,List.getElem?_take,if_pos hi]at h5;simp only[World.cell?,h1];simpa using h5
theorem RowB.free {w:World}{g cap:Nat}{bs:List UInt8}(h:RowB w g cap bs)(i:Nat):w.frozen? ⟨g,i,none⟩=false:=by
 obtain⟨cur,h1,h2,h3,h4⟩:=h;simp only[World.frozen?,h1];simp
theorem RowB.set {w:World}{g cap:Nat}{bs:List UInt8}(h:RowB w g cap bs)(i:Nat)(v:UInt8):RowB (w.setCell ⟨g,i,none⟩ (.int .u8 (v.toNat:Int))) g cap (bs.set i v):=by
 obtain⟨cur,h1,h2,h3,h4⟩:=h;refine⟨cur.setIfInBounds i (.int .u8 (v.toNat:Int)),?_,by simp[h2],by simpa using h3,?_⟩
 · simp only[World.setCell,Array.getElem?_modify,h1]
   simp
 · rw[List.length_set,Lib.byteCells,List.map_set,Array.toList_setIfInBounds,List.take_set,h4]
   rfl
theorem RowB.of_own {w:World}{B:Nat}{v:Value}{bs:List UInt8}(h:w.ownsRow B 5 1 v bs.length (Lib.byteCells bs))(hp:0<bs.length):∃ g cap,v=.slice (some ⟨g,0,none⟩) bs.length cap∧B≤g∧cap≤maxLen∧RowB w g cap bs:=by
 obtain⟨h1,h2⟩:=h;rcases h2 with⟨h2,h3⟩|⟨g,cap,cur,hv,hg,hh,hn,hc,hs,ht⟩
 · omega
 · rw[Nat.mul_one]at hs ht
   exact⟨g,cap,hv,hg,hc,cur,hh,hs,hn,ht⟩
set_option maxRecDepth 100000
set_option maxHeartbeats 20000000
open Go.Lib (hid)
theorem below_drewN' {B:Nat}{a w:World}(h:Below B a w)(n:Nat):Below B a (w.drewN n):=h.trans ⟨rfl,rfl,rfl,Nat.le_refl _,fun _ _=>rfl⟩
theorem z3Z (a1 a2:Option Addr)(n m c1 c2:Nat)(h:n≠m)(w:World) :
 Calls Tryz.prog 210 #[.slice a1 n c1,.slice a2 m c2] w fun e w'=>e=.returned (.bool (decide (n<m)))∧w=w':=by
 have hb:((n:Int) != (m:Int))=true:=bne_iff_ne.2 (by omega);by_cases hlt:n<m
 · go_enter func210,ntmps210
   go_wp2;go_ret
   exact⟨dC (by simp[hlt]),rfl⟩
 · go_enter func210,ntmps210
   go_wp2;go_ret
   exact⟨dC (by simp[hlt]),rfl⟩
def z2l (xs ys:List Nat) (k:Nat):Prop:=∀ j,k≤j→j<xs.length→xs.getD j 0=ys.getD j 0
theorem z2j (b1 o1 c1 b2 o2 c2:Nat)(xs ys:List Nat)(hxy:xs.length=ys.length)(hx:∀ x∈xs,x<BB)(hy:∀ y∈ys,y<BB)(hl:xs.length≤1000000)(w:World)
 (hcx:∀ i,i<xs.length→w.cell? ⟨b1,o1+i,none⟩=some (.int .u64 ((xs.getD i 0:Nat):Int)))
 (hcy:∀ i,i<ys.length→w.cell? ⟨b2,o2+i,none⟩=some (.int .u64 ((ys.getD i 0:Nat):Int))) :
 CR 210 #[.slice (some ⟨b1,o1,none⟩) xs.length c1,.slice (some ⟨b2,o2,none⟩) xs.length c2] w (.bool (decide (ai xs<ai ys))):=by
 obtain ⟨HXY,HX,HY,HCX,HCY⟩:=bY hxy hx hy hcx hcy;clear hxy hx hy hcx hcy;have hb:((xs.length:Int) != (xs.length:Int))=false:=by simp
 go_enter func210,ntmps210
 go_wp2;go_loopw [5] (fun ii wr=>∃ z:Int,-1≤z∧z<xs.length∧ii=.int .i64 z∧Hid (z2l xs ys (z+1).toNat)∧Hid (Below w.heap.size w wr)) (fun ii _=>(intOf ii+1).toNat)
 case atStart=>exact⟨(xs.length:Int)-1,by omega,by omega,rfl,fun j h1 h2=>absurd h1 (by omega),Below.refl _ _⟩
 case round =>
  obtain⟨z,hz1',hz8,rfl,he,hn⟩:=hrel;by_cases hz:0≤z
  · obtain⟨j,rfl⟩:=Int.eq_ofNat_of_zero_le hz
    have hb1:=World.block_lt_of_cell? _ _ (HCX.o j (by omega));have hb2:=World.block_lt_of_cell? _ _ (HCY.o j (by have:=HXY.o;omega));have hcx:=(hn.o.cell (p:=⟨b1,o1+j,none⟩) hb1).trans (HCX.o j (by omega));have hcy:=(hn.o.cell (p:=⟨b2,o2+j,none⟩) hb2).trans (HCY.o j (by have:=HXY.o;omega));have he':=he.o;rw[show((j:Int)+1).toNat=j+1 by omega]at he';have HE:=hid he';clear he' he;obtain⟨x,hxe⟩:∃ x,x=xs.getD j 0:=⟨_,rfl⟩;obtain⟨y,hye⟩:∃ y,y=ys.getD j 0:=⟨_,rfl⟩;rw[← hxe]at hcx;rw[← hye]at hcy;obtain ⟨HXE,HYE⟩:=aD hxe hye;clear hxe hye hb1 hb2;have i1:(0:Int)≤(j:Int):=by omega
    have i2:(j:Int)<(xs.length:Int):=by omega
    by_cases hxy:x=y
    · have hb':((x:Int) != (y:Int))=false:=by rw[bne_eq_false_iff_eq];omega
      have HXY2:=hid hxy;clear hxy;go_wp2;go_quiet (fail)
      have hn2:=hid (below_drewN' hn.o nq);go_wp2;go_roundw
      case rel=>exact⟨(j:Int)-1,by omega,by omega,rfl,(fun k h1 h2=>by
       by_cases hk:k=j
       · subst hk;rw[← HXE.o,← HYE.o,HXY2.o]
       · exact HE.o k (by omega) h2),hn2⟩
      case measure=>simp[intOf]
    · have hb':((x:Int) != (y:Int))=true:=by rw[bne_iff_ne];omega
      go_wp2;go_quiet (fail)
      go_wp2;have hn2:=below_drewN' hn.o nq;have hcx2:(wr.drewN nq).cell? ⟨b1,o1+j,none⟩=some (.int .u64 (x:Int)):=hcx;have hcy2:(wr.drewN nq).cell? ⟨b2,o2+j,none⟩=some (.int .u64 (y:Int)):=hcy;have HN2:=hid hn2;clear hcx hcy hn2;generalize wr.drewN nq=w2 at *;go_quiet (fail)
      have HN3:=hid (below_drewN' HN2.o nq);go_wp2;go_ret
      refine⟨dC ?_,HN3.o⟩;have hjl:j<xs.length:=by omega
      rcases Nat.lt_or_ge x y with hlt|hge
      · have hv:=jX HXY.o hjl HX.o (fun k h1 h2=>HE.o k (by omega) h2) (by rw[← HXE.o,← HYE.o];exact hlt)
        simp[hv];omega
      · have hv:=jX HXY.o.symm (by have:=HXY.o;omega) HY.o (fun k h1 h2=>(HE.o k (by omega) (by have:=HXY.o;omega)).symm) (show ys.getD j 0<xs.getD j 0 by rw[← HXE.o,← HYE.o];omega)
        have hnv:¬ ai xs<ai ys:=by omega
        simp[hnv];omega
  · have hz0':(z+1).toNat=0:=by omega
    have he':=he.o;rw[hz0']at he';have heq:=hid (oD HXY.o (fun j hj=>he' j (by omega) hj));clear he' hz0';go_wp2;go_ret
    exact⟨dC (by rw[heq.o];simp),hn.o⟩
theorem z2k (a1 a2:Option Addr)(c1 c2:Nat)(w:World) :
 Calls Tryz.prog 210 #[.slice a1 0 c1,.slice a2 0 c2] w fun e w'=>e=.returned (.bool false)∧w=w':=by
 go_enter func210,ntmps210
 go_wp2;refine wp_loop_rounds 1 ?_;rw[rounds_succ];go_wp2;go_ret
 exact⟨rfl,rfl⟩
theorem aT {k:IntKind}{w:World}{v:Value}{xs:List Nat}(h:Rd k w v xs):∃ a c,v=.slice a xs.length c:=by
 rcases h with⟨rfl,rfl⟩|⟨b,o,c,rfl,_⟩
 · exact⟨none,0,rfl⟩
 · exact⟨_,c,rfl⟩
theorem dN {k:IntKind}{w:World}{v:Value}{xs:List Nat}(h:Rd k w v xs)(hp:0<xs.length):∃ b o c,v=.slice (some ⟨b,o,none⟩) xs.length c∧xs.length≤c∧c≤maxLen∧b<w.heap.size∧∀ i,i<xs.length→w.cell? ⟨b,o+i,none⟩=some (.int k ((xs.getD i 0:Nat):Int)):=by
 rcases h with⟨_,rfl⟩|h
 · simp at hp
 · exact h
theorem nM (v1 v2:Value)(a b:Nat)(hl:(ae a).length≤1000000)(w:World)(h1:Rd .u64 w v1 (ae a))(h2:Rd .u64 w v2 (ae b)) :
 CR 210 #[v1,v2] w (.bool (decide (a<b))):=by
 by_cases hne:(ae a).length=(ae b).length
 · by_cases h0:(ae a).length=0
   · have ha:a=0:=by have:=ax a;rw[List.length_eq_zero_iff.1 h0]at this;exact this.symm
     have hb:b=0:=by have:=ax b;rw[List.length_eq_zero_iff.1 (show(ae b).length=0 by omega)]at this;exact this.symm
     obtain⟨a1,c1,rfl⟩:=aT h1;obtain⟨a2,c2,rfl⟩:=aT h2;rw[← hne,h0];exact(z2k a1 a2 c1 c2 w).mono fun e w' ⟨g1,g2⟩=>⟨by rw[g1,ha,hb];rfl,g2▸Below.refl _ _⟩
   · obtain⟨b1,o1,c1,rfl,_,_,_,r1⟩:=dN h1 (by omega)
     obtain⟨b2,o2,c2,rfl,_,_,_,r2⟩:=dN h2 (by omega);have:=z2j b1 o1 c1 b2 o2 c2 (ae a) (ae b) hne (aQ a) (aQ b) hl w r1 r2;rw[ax,ax]at this;rw[← hne];exact this
 · obtain⟨a1,c1,rfl⟩:=aT h1
   obtain⟨a2,c2,rfl⟩:=aT h2;refine(z3Z a1 a2 _ _ c1 c2 hne w).mono fun e w' ⟨g1,g2⟩=>⟨?_,g2▸Below.refl _ _⟩;rw[g1];refine dC ?_;rcases Nat.lt_or_ge (ae a).length (ae b).length with h|h
   · have:=eP h
     simp[h,this]
   · have:=eP (show(ae b).length<(ae a).length by omega)
     have h3:¬ (ae a).length<(ae b).length:=by omega
     have h4:¬ a<b:=by omega
     simp[h3,h4]
end Go.Proofs.YtikihamjpenboaaGreatDoor
set_option maxRecDepth 100000
set_option maxHeartbeats 20000000
open Go.Lib (hid)
namespace Go.Proofs.YtikihamjpenboaaGreatDoor
open Go.RowKit Go.Gb
def tK (xs os:List Nat) (d i r:Nat):Prop:=os.length=xs.length-i∧(∀ x∈os,x<BB)∧r<d∧ai (xs.drop i)=ai os*d+r
theorem tK.start (xs:List Nat){d:Nat}(hd:0<d):tK xs [] d xs.length 0:=⟨by simp,by simp,hd,by rw[List.drop_of_length_le (Nat.le_refl _)];simp[ai]⟩
theorem tK.step {xs os:List Nat}{d i r:Nat}(h:tK xs os d (i+1) r)(hi:i<xs.length)(hx:∀ x∈xs,x<BB):tK xs ((r*BB+xs.getD i 0) / d :: os) d i ((r*BB+xs.getD i 0)%d):=by
 obtain⟨h1,h2,h3,h4⟩:=h;have hw:=hx _ (aV hi);obtain⟨g1,g2⟩:=z3E (xs.getD i 0) h4 h3;refine⟨by simp[h1];omega,?_,g2,?_⟩
 · intro x hm
   rcases List.mem_cons.1 hm with hm|hm
   · rw[hm];exact oF h3 hw
   · exact h2 x hm
 · rw[gu hi,g1,ai,Nat.add_comm (BB*ai os)]
theorem mX {v:Value}{k:IntKind}{a b:Int}(h:a=b):Ending.returned (.tuple #[v,.int k a])=.returned (.tuple #[v,.int k b]):=by rw[h]
theorem iV (j:Nat):List.replicate (j+1) (0:Nat)=List.replicate j 0++[0]:=by rw[List.replicate_succ']
theorem uS (b1 o1 c1:Nat)(xs:List Nat)(d:Nat)(hd:0<d)(hdB:d≤1000000000)(hx:∀ x∈xs,x<BB)(hl:xs.length≤100000)(w:World)(hb1:b1<w.heap.size)
 (hcx:∀ i,i<xs.length→w.cell? ⟨b1,o1+i,none⟩=some (.int .u64 ((xs.getD i 0:Nat):Int))) :
 Calls Tryz.prog 241 #[.slice (some ⟨b1,o1,none⟩) xs.length c1,.int .u64 (d:Int)] w fun e w' =>
  ∃ v,e=.returned (.tuple #[v,.int .u64 ((ai xs%d:Nat):Int)])∧Own .u64 95 w.heap.size w' v (ae (ai xs / d))∧Below w.heap.size w w':=by
 obtain⟨i0,hi,hz0,hz1,hz2⟩:=info_parts Tryz.info95;have HX:=hid hx;have HCX:=hid hcx;have hd1:(1:Int)≤(d:Int):=by omega
 have hd2:(d:Int)≤1000000000:=by omega
 have hdz:((d:Int)==0)=false:=beq_eq_false_iff_ne.2 (by omega);have HD:=hid hd;have HDB:=hid hdB;clear hx hcx hd hdB;go_enter func241,ntmps241
 go_wp2_with (at_make;refine wpList_make_full _ rfl _ _ 177 rfl w.heap.size 95 i0 (.int .u64 0) 1 underlying177 hi hz0 hz1 _ _ _ _ xs.length rfl rfl (by omega) (by omega) ?b2 ?b3 (Nat.le_refl _) ?_)
 case b2=>rw[hz2];omega
 case b3=>unfold maxLen;omega
 intro w0 hown0 hgrow0;have wu:=hid (show Blk w0 w.heap.size (List.replicate xs.length 0) from Blk.of_made hown0 (dS _));have HN0:=hid ((Below.refl w.heap.size w).grown hgrow0 (Nat.le_refl _) (fun k h=>by cases h));clear hown0 hgrow0;go_wp2;go_loopw [7,8] (fun rr ii wr=>∃ (z:Int) (r:Nat) (os:List Nat),-1≤z∧z<xs.length∧ii=.int .i64 z∧rr=.int .u64 (r:Int)∧Hid (tK xs os d (z+1).toNat r)∧Hid (Blk wr w.heap.size (List.replicate (z+1).toNat 0++os))∧Hid (Below w.heap.size w wr)) (fun _ ii _=>(intOf ii+1).toNat)
 case atStart=>exact⟨(xs.length:Int)-1,0,[],by omega,by omega,rfl,rfl,by rw[show((xs.length:Int)-1+1).toNat=xs.length by omega];exact tK.start xs HD.o,by rw[show((xs.length:Int)-1+1).toNat=xs.length by omega,List.append_nil];exact wu,HN0⟩
 case round =>
  obtain⟨z,r,os,hz1',hz8,rfl,rfl,hI,hB,hn⟩:=hrel;by_cases hz:0≤z
  · obtain⟨j,rfl⟩:=Int.eq_ofNat_of_zero_le hz
    have hj:j<xs.length:=by omega
    have hI':=hI.o;have hB':=hB.o;rw[show((j:Int)+1).toNat=j+1 by omega]at hI' hB';have hcx:=(hn.o.cell (p:=⟨b1,o1+j,none⟩) hb1).trans (HCX.o j hj);have hxw:=HX.o _ (aV hj);have hst:=hI'.step hj HX.o;have hr:=hI'.2.2.1;rw[iV,List.append_assoc]at hB';have e1:(List.replicate j 0++([0]++os)).getD j 0=0:=by simp[List.getD]
    have hcell:=hB'.cell (i:=j) (by simp);have hfree:=hB'.free j;have hset:=hB'.set j ((r*BB+xs.getD j 0) / d);have e2:(List.replicate j 0++([0]++os)).set j ((r*BB+xs.getD j 0) / d)=List.replicate j 0++((r*BB+xs.getD j 0) / d :: os):=by simp
    rw[e1]at hcell;rw[e2]at hset;have hbel:=hn.o.setCell (p:=⟨w.heap.size,j,none⟩) (Nat.le_refl _) (.int .u64 (((r*BB+xs.getD j 0) / d:Nat):Int));obtain ⟨HS,HI,HBL⟩:=ak hset hst hbel;clear hI' hB' hst e1 e2 hset hbel hI hB hn;generalize xs.getD j 0=x at *;rw[aG]at hxw;have hr2:r<1000000000:=by have:=HDB.o;omega
    have hq:((r:Int)*1000000000+(x:Int)) / (d:Int)=(((r*BB+x) / d:Nat):Int):=by rw[aG];rfl
    have hm:((r:Int)*1000000000+(x:Int))%(d:Int)=(((r*BB+x)%d:Nat):Int):=by rw[aG];rfl
    obtain ⟨HQ,HM⟩:=aD hq hm;have k1:(x:Int)≤999999999:=by omega
    have k2:(r:Int)≤999999999:=by omega
    clear hq hm hxw hr hr2;go_wp2;go_roundw
    case rel=>exact⟨(j:Int)-1,(r*BB+x)%d,(r*BB+x) / d :: os,by omega,by omega,rfl,by rw[← HM.o],by rw[show((j:Int)-1+1).toNat=j by omega];exact HI,by rw[show((j:Int)-1+1).toNat=j by omega,HQ.o];exact HS,by rw[HQ.o];exact HBL⟩
    case measure=>simp[intOf]
  · have hz0':(z+1).toNat=0:=by omega
    have hI':=hI.o;have hB':=hB.o;rw[hz0']at hI' hB';obtain⟨g1,g2,g3,g4⟩:=hI';rw[List.drop_zero]at g4;rw[List.replicate_zero,List.nil_append]at hB';have hown:=Blk.own hB' (Nat.le_refl _) (by unfold maxLen;omega) os.length (Nat.le_refl _);rw[List.take_of_length_le (Nat.le_refl _)]at hown;have hq:ai os=ai xs / d:=by rw[g4,Nat.add_comm,Nat.add_mul_div_right _ _ HD.o,Nat.div_eq_of_lt g3,Nat.zero_add]
    have hm:r=ai xs%d:=by rw[g4,Nat.add_comm,Nat.add_mul_mod_self_right,Nat.mod_eq_of_lt g3]
    have htr:=fP 95 w.heap.size _ os g2 wr hown;rw[g1,Nat.sub_zero,hq]at htr;obtain ⟨HTR,HM⟩:=aD htr hm;clear g1 g2 g3 g4 hB' hown hq htr hz0' hm;go_wp2_with fail
    refine HTR.o.mono ?_;rintro e w2 ⟨v',rfl,hown,rfl⟩;go_wp2;go_ret2
    exact⟨v',mX (by rw[HM.o]),hown,hn.o⟩
theorem z08 (b o c:Nat)(xs:List Nat)(hl:xs.length≤100000)(w:World)(hb:b<w.heap.size)
 (hcx:∀ i,i<xs.length→w.cell? ⟨b,o+i,none⟩=some (.int .u64 ((xs.getD i 0:Nat):Int))) :
 Calls Tryz.prog 179 #[.slice (some ⟨b,o,none⟩) xs.length c] w fun e w'=>∃ v,e=.returned v∧Own .u64 95 w.heap.size w' v xs∧Below w.heap.size w w':=by
 obtain⟨i0,hi,hz0,hz1,hz2⟩:=info_parts Tryz.info95;have HCX:=hid hcx;clear hcx;have hne:∀ W,(binOp .eql 177 (.slice (some ⟨b,o,none⟩) xs.length c) (.slice none 0 0)).run Tryz.prog W=.ok (.bool false) W:=fun W=>Lib.run_eql_slice_nil (P:=Tryz.prog) W 177 95 (some ⟨b,o,none⟩) xs.length c 0 0 underlying177;have hown:(w.alloc (.cells #[] 95)).ownsRow w.heap.size 95 1 (.slice (some ⟨w.heap.size,0,none⟩) 0 0) 0 []:=World.ownsRow_made w #[] 0 (Nat.le_refl _) (by unfold maxLen;omega) rfl;have HO:=hid hown
 have hnews:∀ j u,(cls .u64 xs)[j]? = some u→(w.alloc (.cells #[] 95)).cell? ((⟨b,o,none⟩:Addr).add j)=some u:=by
  intro j u hj
  have hjl:j<xs.length:=by
   have:=(List.getElem?_eq_some_iff.1 hj).1;rwa [eQ]at this
  rw[Lib.add_plain,World.cell?_alloc_lt _ _ _ hb,HCX.o j hjl,← hj,jM hjl]
 have HN:=hid hnews;clear hown hnews;go_enter func179,ntmps179
 go_wp2_with (at_builtin;refine wpList_append_own _ rfl _ _ 177 rfl w.heap.size 95 i0 (.int .u64 0) 1 8 underlying177 hi hz0 hz1 hz2 rfl (by decide) _ _ _ rfl HO.o ⟨b,o,none⟩ xs.length c (cls .u64 xs) rfl (by rw[eQ,Nat.mul_one]) HN.o ?h1 (by unfold maxLen;omega) (by omega) (by simp) ?_)
 case h1=>intro u hu;obtain⟨n,_,rfl⟩:=List.mem_map.1 hu;rfl
 intro v' w1 hown' hgrow _;have hb2:=hid (((Below.refl w.heap.size w).alloc (Nat.le_refl _) (.cells #[] 95)).grown hgrow (by simp) (fun k hk=>by cases hk;exact Nat.le_refl _));have HO':=hid hown';clear hown' hgrow hne;go_wp2;go_ret
 exact⟨v',rfl,HO'.o,hb2.o⟩
theorem z09 (w:World):Calls Tryz.prog 179 #[.slice none 0 0] w fun e w'=>e=.returned (.slice none 0 0)∧w=w':=by
 have hne:∀ W,(binOp .eql 177 (.slice none 0 0) (.slice none 0 0)).run Tryz.prog W=.ok (.bool true) W:=fun W=>Lib.run_eql_slice_nil (P:=Tryz.prog) W 177 95 none 0 0 0 0 underlying177;go_enter func179,ntmps179
 go_wp2_with fail
 go_ret
 exact⟨rfl,rfl⟩
theorem oZ (v:Value)(xs:List Nat)(hl:xs.length≤100000)(w:World)(h:Rd .u64 w v xs) :
 Calls Tryz.prog 179 #[v] w fun e w'=>∃ v',e=.returned v'∧Own .u64 95 w.heap.size w' v' xs∧Below w.heap.size w w':=by
 rcases h with⟨rfl,rfl⟩|⟨b,o,c,rfl,_,_,hb,hc⟩
 · exact(z09 w).mono fun e w' ⟨h1,h2⟩=>⟨_,h1,Own.nil _ _ _ _,h2▸Below.refl _ _⟩
 · exact z08 b o c xs hl w hb hc
theorem xz (v1 v2:Value)(a b:Nat)(hab:a<b)(hl:(ae a).length≤100000)(w:World)(h1:Rd .u64 w v1 (ae a))(h2:Rd .u64 w v2 (ae b)) :
 Calls Tryz.prog 230 #[v1,v2] w fun e w'=>∃ r,e=.returned (.tuple #[.slice none 0 0,r])∧Own .u64 95 w.heap.size w' r (ae a)∧Below w.heap.size w w':=by
 have hless:=nM v1 v2 a b (by omega) w h1 h2;rw[show decide (a<b)=true by simpa using hab]at hless;obtain ⟨HL,H1,Hl⟩:=ak hless h1 hl;clear hless h1 h2 hab hl;go_enter func230,ntmps230
 go_wp2_with fail
 refine HL.o.mono ?_;rintro e w1 ⟨rfl,hb1⟩;have hcl:=hid (oZ v1 (ae a) Hl.o w1 (H1.o.below hb1));have w9:=hid hb1;clear hb1;go_wp2_with fail
 refine hcl.o.mono ?_;rintro e w2 ⟨r,rfl,hown,hb2⟩;have HO:=hid (hown.mono w9.o.size);have u6:=hbt w9 hb2;clear hown hb2;go_wp2;go_ret2
 exact⟨r,rfl,HO.o,u6.o⟩
theorem zR (r:Nat):ae (ai [r])=ae r:=by simp[ai]
theorem xw (v1 v2:Value)(a b:Nat)(hab:¬ a<b)(hlb:(ae b).length=1)(hl:(ae a).length≤100000)(w:World)(h1:Rd .u64 w v1 (ae a))(h2:Rd .u64 w v2 (ae b)) :
 Calls Tryz.prog 230 #[v1,v2] w fun e w'=>∃ q r,e=.returned (.tuple #[q,r])∧Own .u64 95 w.heap.size w' q (ae (a / b))∧Own .u64 95 w.heap.size w' r (ae (a%b))∧Below w.heap.size w w':=by
 have hb0:b≠0:=by intro h;rw[h,aN]at hlb;simp at hlb
 have hbB:b<BB:=by have:=dI b;rwa [hlb,Nat.pow_one]at this
 have hdb:(ae b).getD 0 0=b:=by
  have:=ax b;rw[bH hb0]at hlb ⊢;have e:ae (b / BB)=[]:=List.length_eq_zero_iff.1 (by simpa using hlb);simp[Nat.mod_eq_of_lt hbB]
 have hless:=nM v1 v2 a b (by omega) w h1 h2;rw[show decide (a<b)=false by simpa using hab]at hless;have ha0:a≠0:=by omega
 obtain⟨b1,o1,c1,rfl,_,_,k1,r1⟩:=dN h1 (List.length_pos_iff.2 (by rw[bH ha0];simp));obtain⟨b2,o2,c2,rfl,_,_,k2,r2⟩:=dN h2 (by omega);have r20:=r2 0 (by omega);rw[hdb,Nat.add_zero]at r20;rw[hlb]at hless ⊢;obtain ⟨HL,HR1,HR20,Hl⟩:=aM hless r1 r20 hl;have Hb0:=hid (show 0<b by omega);have HbB:=hid hbB;clear hless h1 h2 hab hl r1 r2 r20 hdb hlb hb0 hbB ha0;go_enter func230,ntmps230
 go_wp2_with fail
 refine HL.o.mono ?_;rintro e w1 ⟨rfl,hb1⟩;have hc20:=(hb1.cell (p:=⟨b2,o2,none⟩) k2).trans HR20.o;have hdw:=hid (uS b1 o1 c1 (ae a) b Hb0.o (by have:=aG;have:=HbB.o;omega) (aQ a) Hl.o w1 (Nat.lt_of_lt_of_le k1 hb1.size) (fun i hi=>(hb1.cell (p:=⟨b1,o1+i,none⟩) k1).trans (HR1.o i hi)));have w9:=hid hb1;clear hb1;go_wp2_with fail
 refine hdw.o.mono ?_;rintro e w2 ⟨q,rfl,hown,hb2⟩;rw[ax]at hown ⊢;have HO:=hid (hown.mono w9.o.size);have u6:=hbt w9 hb2;clear hown hb2 hc20 hdw HL;have hrB:a%b<BB:=Nat.lt_trans (Nat.mod_lt _ Hb0.o) HbB.o;have hblk:Blk (w2.alloc (.cells #[.int .u64 ((a:Int)%(b:Int))] 95)) w2.heap.size [a%b]:=Blk.alloc [a%b] _ (by simp[cls]);have hown2:=hblk.own (B:=w.heap.size) u6.o.size (by unfold maxLen;simp) 1 (by simp);have htr:=fP 95 w.heap.size _ [a%b] (by intro x hx;have:=List.mem_singleton.1 hx;omega) (w2.alloc (.cells #[.int .u64 ((a:Int)%(b:Int))] 95)) hown2;rw[zR]at htr;have HTR:=hid htr;have HO2:=hid (HO.o.below ((Below.refl w2.heap.size w2).alloc (Nat.le_refl _) (.cells #[.int .u64 ((a:Int)%(b:Int))] 95)));have wo:=hid (u6.o.alloc u6.o.size (.cells #[.int .u64 ((a:Int)%(b:Int))] 95));clear hrB hblk hown2 htr;go_wp2_with fail
 refine HTR.o.mono ?_;rintro e w3 ⟨r,rfl,hr,rfl⟩;go_wp2;go_ret2
 exact⟨q,r,rfl,HO2.o,hr,wo.o⟩
open Go.Lib (hid)
theorem lM (w:World):Car (w.alloc (.cells #[.int .u64 0] 272)) w.heap.size 0:=by unfold Car;rw[heap_alloc_new];rfl
theorem dF {l:List UInt8}(h:l.all isD=true)(k:Nat)(hl:l.length≤9*k):(ae (aI l)).length≤k:=by
 refine bI (Nat.lt_of_lt_of_le (il l h) ?_);rw[show BB=10^9 from by rw[aG],← Nat.pow_mul];exact Nat.pow_le_pow_right (by decide) hl
theorem tT (v1 v2:Value)(a b:Nat)(hab:b≤a)(ha:a≠0)(hl:(ae a).length≤100000)(w:World)(h1:Rd .u64 w v1 (ae a))(h2:Rd .u64 w v2 (ae b)) :
 Calls Tryz.prog 250 #[v1,v2] w fun e w'=>∃ v,e=.returned v∧Own .u64 95 w.heap.size w' v (ae (a-b))∧Below w.heap.size w w':=by
 obtain⟨b1,o1,c1,rfl,_,_,k1,r1⟩:=dN h1 (List.length_pos_iff.2 (by rw[bH ha];simp));have hb0:=(Below.refl w.heap.size w).alloc (Nat.le_refl _) (.cells #[.int .u64 0] 272)
 have hj:Calls Tryz.prog 257 #[.slice (some ⟨b1,o1,none⟩) (ae a).length c1,v2,.func (.func 258) #[.pointer (some ⟨w.heap.size,0,none⟩)] #[]] (w.alloc (.cells #[.int .u64 0] 272)) fun e w' =>
  e=.returned (.slice (some ⟨w.heap.size+1,0,none⟩) (ae a).length ((ae a).length+1))∧∃ (os:List Nat) (c:Nat),eU (ae a) (ae b) os (ae a).length c∧Blk w' (w.heap.size+1) (os++[0])∧Car w' w.heap.size c∧(w.alloc (.cells #[.int .u64 0] 272)).grownBy w' (some w.heap.size):=by
  have hcx:∀ i,i<(ae a).length→(w.alloc (.cells #[.int .u64 0] 272)).cell? ⟨b1,o1+i,none⟩=some (.int .u64 (((ae a).getD i 0:Nat):Int)):=fun i hi=>(hb0.cell (p:=⟨b1,o1+i,none⟩) k1).trans (r1 i hi);have hz:(w.alloc (.cells #[.int .u64 0] 272)).heap.size=w.heap.size+1:=by simp
  rcases h2 with⟨rfl,h2⟩|⟨b2,o2,c2,rfl,_,_,k2,r2⟩
  · have:=pO eU w.heap.size b1 o1 c1 none 0 (ae a) (ae b) hl (w.alloc (.cells #[.int .u64 0] 272)) (yt _ _ _ (aQ a) (aQ b)) (eU.start _ _) (fun os i c h=>h.1) (lM w) (by rw[hz];omega) (by omega) hcx (by rw[h2];simp)
    rw[hz,h2]at this;rw[h2];exact this
  · have:=om eU w.heap.size b1 o1 c1 b2 o2 c2 (ae a) (ae b) hl (w.alloc (.cells #[.int .u64 0] 272)) (yt _ _ _ (aQ a) (aQ b)) (eU.start _ _) (fun os i c h=>h.1) (lM w) (by rw[hz];omega) (by omega) hcx (by rw[hz];omega) (by omega) (fun i hi=>(hb0.cell (p:=⟨b2,o2+i,none⟩) k2).trans (r2 i hi))
    rw[hz]at this;exact this
 obtain ⟨HJ,HAB,HL⟩:=ak hj hab hl;clear hj h1 h2 r1 hb0 hab ha hl;go_enter func250,ntmps250
 go_wp2_with fail
 refine HJ.o.mono ?_;rintro e w1 ⟨rfl,os,c,hd,hblk,_,hg⟩;obtain⟨g1,g2⟩:=hd.done (aL HAB.o) (by rw[ax,ax];exact HAB.o);rw[ax,ax]at g1;have hlen:=hd.1;have hown:=hblk.own (B:=w.heap.size) (by omega) (by have:=HL.o;unfold maxLen;simp;omega) os.length (by simp);rw[List.take_left,hlen,List.length_append,List.length_singleton,hlen]at hown;have htr:=fP 95 w.heap.size _ os g2 w1 hown;rw[g1]at htr;have HTR:=hid htr;have HB:=hid (((Below.refl w.heap.size w).alloc (Nat.le_refl _) (.cells #[.int .u64 0] 272)).grown hg (by simp) (fun k hk=>by cases hk;exact Nat.le_refl _));clear hd hblk hg g1 g2 hown htr hlen;go_wp2_with fail
 refine HTR.o.mono ?_;rintro e w2 ⟨v,rfl,hown,rfl⟩;go_wp2;go_ret
 exact⟨v,rfl,hown,HB.o⟩
theorem nO (u:Int)(h0:0≤u)(h1:u<18446744073709551616)(w:World)(htab:Tb w) :
 CR 237 #[.int .u64 u] w (.string ⟨(Lib.decDigits u.toNat).toArray⟩):=by
 obtain⟨n,rfl⟩:=Int.eq_ofNat_of_zero_le h0;exact nP n (by omega) w htab
theorem fB (a b:Nat):(ae (a*b)).length≤(ae a).length+(ae b).length:=by
 refine bI ?_;rw[Nat.pow_add];rcases Nat.eq_zero_or_pos b with h|h
 · rw[h,Nat.mul_zero];exact Nat.mul_pos (Nat.pow_pos bE) (Nat.pow_pos bE)
 · exact Nat.mul_lt_mul_of_lt_of_le (dI a) (Nat.le_of_lt (dI b)) (Nat.pow_pos bE)
def St (l:List UInt8):Value:=.string ⟨l.toArray⟩
theorem bC {l:List UInt8}(h:vld l=true):l.all isD=true:=((ib l).1 h).2.1
theorem z4y {s:ByteArray}(h:vld s.data.toList=true)(hl:s.size≤18):aI s.data.toList<1000000000000000000:=by
 have h1:=il _ (bC h);have h2:10^s.data.toList.length≤10^18:=Nat.pow_le_pow_right (by decide) (by rw[aC];exact hl);omega
theorem z4x {s:ByteArray}(h:vld s.data.toList=true)(hl:s.size≤19):aI s.data.toList<10000000000000000000:=by
 have h1:=il _ (bC h);have h2:10^s.data.toList.length≤10^19:=Nat.pow_le_pow_right (by decide) (by rw[aC];exact hl);omega
theorem z2m (a b:ByteArray)(ha:vld a.data.toList=true)(hb:vld b.data.toList=true)(hla:a.size≤18)(hlb:b.size≤18)(w:World)(htab:Tb w) :
 CR 240 #[.string a,.string b] w (.tuple #[St (Lib.decDigits (aI a.data.toList+aI b.data.toList)),.int .i64 0]):=by
 obtain ⟨HA,HB,HT⟩:=ak ha hb htab;have Hla:=hid (show a.size≤maxLen by unfold maxLen;omega);have Hlb:=hid (show b.size≤maxLen by unfold maxLen;omega);have hba:=z4y ha hla;have hbb:=z4y hb hlb;have HBA:=hid hba;have HBB:=hid hbb;clear ha hb htab hba hbb;go_enter func240,ntmps240
 go_wp2_with fail
 refine(bN a HA.o Hla.o _).mono ?_;rintro e w' ⟨rfl,rfl⟩;go_wp2_with fail
 refine(bN b HB.o Hlb.o _).mono ?_;rintro e w' ⟨rfl,rfl⟩;go_wp2_with fail
 refine(iF a HA.o (by omega) _).mono ?_;rintro e w1 ⟨rfl,hb1⟩;have w9:=hid hb1;clear hb1;go_wp2_with fail
 refine(iF b HB.o (by omega) _).mono ?_;rintro e w2 ⟨rfl,hb2⟩;have u6:=hbt w9 hb2;clear hb2;generalize hxx:aI a.data.toList=x at *;generalize hyy:aI b.data.toList=y at *;have HXX:=hid hxx;have HYY:=hid hyy;clear hxx hyy;have hx:=HBA.o;have hy:=HBB.o;have hsum:IntKind.u64.wrap ((x:Int)+(y:Int))=(x:Int)+(y:Int):=IntWalk.u64_in _ (by omega);have hwr:=hid (nO ((x:Int)+(y:Int)) (by omega) (by omega) w2 (HT.o.on u6.o));clear hx hy;go_wp2_with fail
 refine hwr.o.mono ?_;rintro e w3 ⟨rfl,hb3⟩;rw[show((x:Int)+(y:Int)).toNat=x+y by omega];have wo:=hbt u6 hb3;clear hb3 hsum;go_wp2;go_ret2
 refine⟨?_,wo.o⟩;rw[HXX.o,HYY.o];rfl
theorem z5y (a b:ByteArray)(ha:vld a.data.toList=true)(hb:vld b.data.toList=true)(hla:a.size≤100000)(hlb:b.size≤100000)(w:World)(htab:Tb w) :
 CR 220 #[.string a,.string b] w (.tuple #[St (Lib.decDigits (aI a.data.toList*aI b.data.toList)),.int .i64 0]):=by
 obtain ⟨HA,HB,HT⟩:=ak ha hb htab;have Hla:=hid (show a.size≤maxLen by unfold maxLen;omega);have Hlb:=hid (show b.size≤maxLen by unfold maxLen;omega);have hda:=hid (dF (bC ha) 100000 (by rw[aC];omega));have hdb:=hid (dF (bC hb) 100000 (by rw[aC];omega));by_cases hs:a.size+b.size≤19
 · have h1:=il _ (bC ha)
   have h2:=il _ (bC hb)
   have h3:aI a.data.toList*aI b.data.toList<10000000000000000000:=by
    have h4:aI a.data.toList*aI b.data.toList≤aI a.data.toList*10^b.data.toList.length:=Nat.mul_le_mul_left _ (Nat.le_of_lt h2);have h5:aI a.data.toList*10^b.data.toList.length<10^a.data.toList.length*10^b.data.toList.length:=Nat.mul_lt_mul_of_pos_right h1 (Nat.pow_pos (by decide));rw[← Nat.pow_add]at h5;have h6:10^(a.data.toList.length+b.data.toList.length)≤10^19:=Nat.pow_le_pow_right (by decide) (by rw[aC,aC];exact hs);omega
   have H3:=hid h3;clear ha hb htab h1 h2 h3;go_enter func220,ntmps220
   go_wp2_with fail
   refine(bN a HA.o Hla.o _).mono ?_;rintro e w' ⟨rfl,rfl⟩;go_wp2_with fail
   refine(bN b HB.o Hlb.o _).mono ?_;rintro e w' ⟨rfl,rfl⟩;go_wp2_with fail
   refine(iF a HA.o (by omega) _).mono ?_;rintro e w1 ⟨rfl,hb1⟩;have w9:=hid hb1;clear hb1;go_wp2_with fail
   refine(iF b HB.o (by omega) _).mono ?_;rintro e w2 ⟨rfl,hb2⟩;have u6:=hbt w9 hb2;clear hb2;generalize hxx:aI a.data.toList=x at *;generalize hyy:aI b.data.toList=y at *;have HXX:=hid hxx;have HYY:=hid hyy;clear hxx hyy;obtain⟨p,hp⟩:∃ p:Nat,p=x*y:=⟨_,rfl⟩;have hpi:(x:Int)*(y:Int)=(p:Int):=by rw[hp];exact(Int.natCast_mul _ _).symm
   have hpb:=H3.o;rw[← hp]at hpb;have hw1:IntKind.u64.wrap (p:Int)=(p:Int):=IntWalk.u64_in _ (by omega);have hwr:=hid (nO (p:Int) (by omega) (by omega) w2 (HT.o.on u6.o));have HP:=hid hp;clear hpb hp;go_wp2_with fail
   refine hwr.o.mono ?_;rintro e w3 ⟨rfl,hb3⟩;rw[Int.toNat_natCast,HP.o];have wo:=hbt u6 hb3;clear hb3 hw1 hpi;go_wp2;go_ret2
   refine⟨?_,wo.o⟩;rw[HXX.o,HYY.o];rfl
 · have hra:=hid (bC ha)
   have hrb:=hid (bC hb)
   have hlp:(ae (aI a.data.toList*aI b.data.toList)).length≤100000:=by
    have g1:=dF (bC ha) 20000 (by rw[aC];omega);have g2:=dF (bC hb) 20000 (by rw[aC];omega);have g3:=fB (aI a.data.toList) (aI b.data.toList);omega
   have HLP:=hid hlp;clear ha hb htab hlp;go_enter func220,ntmps220
   go_wp2_with fail
   refine(bN a HA.o Hla.o _).mono ?_;rintro e w' ⟨rfl,rfl⟩;go_wp2_with fail
   refine(bN b HB.o Hlb.o _).mono ?_;rintro e w' ⟨rfl,rfl⟩;go_wp2_with fail
   refine(gT a hra.o hla _).mono ?_;rintro e w1 ⟨v1,rfl,ho1,hb1⟩;have w9:=hid hb1;have HO1:=hid ho1;clear hb1 ho1;go_wp2_with fail
   refine(gT b hrb.o hlb _).mono ?_;rintro e w2 ⟨v2,rfl,ho2,hb2⟩;have u6:=hbt w9 hb2;have hm:=hid (iL v1 v2 _ _ hda.o hdb.o w2 (HO1.o.rd.below hb2) ho2.rd);clear hb2 ho2;go_wp2_with fail
   refine hm.o.mono ?_;rintro e w3 ⟨v3,rfl,ho3,hb3⟩;have wo:=hbt u6 hb3;have hwr:=hid (je v3 _ HLP.o w3 ho3.rd (HT.o.on wo.o));clear hb3 ho3;go_wp2_with fail
   refine hwr.o.mono ?_;rintro e w4 ⟨rfl,hb4⟩;have ww:=hbt wo hb4;clear hb4;go_wp2;go_ret2
   exact⟨rfl,ww.o⟩
theorem z5w (a b:ByteArray)(ha:vld a.data.toList=true)(hb:vld b.data.toList=true)(hab:aI b.data.toList≤aI a.data.toList)(hla:a.size≤100000)(hlb:b.size≤100000)(w:World)(htab:Tb w) :
 CR 239 #[.string a,.string b] w (.tuple #[St (Lib.decDigits (aI a.data.toList-aI b.data.toList)),.int .i64 0]):=by
 obtain ⟨HA,HB,HT⟩:=ak ha hb htab;have Hla:=hid (show a.size≤maxLen by unfold maxLen;omega);have Hlb:=hid (show b.size≤maxLen by unfold maxLen;omega);have hda:=hid (dF (bC ha) 100000 (by rw[aC];omega))
 have hlen:b.size≤a.size:=by
  rcases Nat.lt_or_ge a.size b.size with h|h
  · have:=eZ ha hb (by rw[aC,aC];exact h)
    omega
  · exact h
 have hcmp:=hid (iy a b ha hb);have hc0:¬ cmpN (aI a.data.toList) (aI b.data.toList)<0:=by unfold cmpN;split<;>(try split)<;>omega
 by_cases hs:a.size≤19
 · have h1:=hid (z4x ha hs)
   have HAB:=hid hab;clear ha hb htab hab;go_enter func239,ntmps239
   go_wp2_with fail
   refine(bN a HA.o Hla.o _).mono ?_;rintro e w' ⟨rfl,rfl⟩;go_wp2_with fail
   refine(bN b HB.o Hlb.o _).mono ?_;rintro e w' ⟨rfl,rfl⟩;go_wp2_with fail
   refine(hcmp.o _).mono ?_;rintro e w' ⟨rfl,rfl⟩;generalize cmpN (aI a.data.toList) (aI b.data.toList)=cc at *;go_wp2_with fail
   refine(iF a HA.o (by omega) _).mono ?_;rintro e w1 ⟨rfl,hb1⟩;have w9:=hid hb1;clear hb1;go_wp2_with fail
   refine(iF b HB.o (by omega) _).mono ?_;rintro e w2 ⟨rfl,hb2⟩;have u6:=hbt w9 hb2;clear hb2;generalize hxx:aI a.data.toList=x at *;generalize hyy:aI b.data.toList=y at *;have HXX:=hid hxx;have HYY:=hid hyy;clear hxx hyy;have hxy:=HAB.o;have hx:=h1.o;have hw1:IntKind.u64.wrap ((x:Int)-(y:Int))=(x:Int)-(y:Int):=IntWalk.u64_in _ (by omega);have hwr:=hid (nO ((x:Int)-(y:Int)) (by omega) (by omega) w2 (HT.o.on u6.o));clear hx hxy;go_wp2_with fail
   refine hwr.o.mono ?_;rintro e w3 ⟨rfl,hb3⟩;rw[show((x:Int)-(y:Int)).toNat=x-y by have:=HAB.o;omega];have wo:=hbt u6 hb3;clear hb3 hw1;go_wp2;go_ret2
   refine⟨?_,wo.o⟩;rw[HXX.o,HYY.o];rfl
 · have hra:=hid (bC ha)
   have hrb:=hid (bC hb)
   have hne:aI a.data.toList≠0:=by
    intro h0;have:=kv _ ha;rw[h0,Lib.decDigits_one (by decide)]at this;have h9:a.data.toList.length=1:=by rw[← this];rfl
    rw[aC]at h9;omega
   have HNE:=hid hne;have hlp:=hid (show(ae (aI a.data.toList-aI b.data.toList)).length≤100000 from Nat.le_trans (aL (Nat.sub_le _ _)) hda.o);have HAB:=hid hab;clear ha hb htab hab hne;go_enter func239,ntmps239
   go_wp2_with fail
   refine(bN a HA.o Hla.o _).mono ?_;rintro e w' ⟨rfl,rfl⟩;go_wp2_with fail
   refine(bN b HB.o Hlb.o _).mono ?_;rintro e w' ⟨rfl,rfl⟩;go_wp2_with fail
   refine(hcmp.o _).mono ?_;rintro e w' ⟨rfl,rfl⟩;generalize cmpN (aI a.data.toList) (aI b.data.toList)=cc at *;go_wp2_with fail
   refine(gT a hra.o hla _).mono ?_;rintro e w1 ⟨v1,rfl,ho1,hb1⟩;have w9:=hid hb1;have HO1:=hid ho1;clear hb1 ho1;go_wp2_with fail
   refine(gT b hrb.o hlb _).mono ?_;rintro e w2 ⟨v2,rfl,ho2,hb2⟩;have u6:=hbt w9 hb2;have hm:=hid (tT v1 v2 _ _ HAB.o HNE.o hda.o w2 (HO1.o.rd.below hb2) ho2.rd);clear hb2 ho2;go_wp2_with fail
   refine hm.o.mono ?_;rintro e w3 ⟨v3,rfl,ho3,hb3⟩;have wo:=hbt u6 hb3;have hwr:=hid (je v3 _ hlp.o w3 ho3.rd (HT.o.on wo.o));clear hb3 ho3;go_wp2_with fail
   refine hwr.o.mono ?_;rintro e w4 ⟨rfl,hb4⟩;have ww:=hbt wo hb4;clear hb4;go_wp2;go_ret2
   exact⟨rfl,ww.o⟩
end Go.Proofs.YtikihamjpenboaaGreatDoor
open Go.Lib (hid)
namespace Go.Proofs.YtikihamjpenboaaGreatDoor
open Go.RowKit Go.Gb
theorem z6S {n g:Nat}(hg:1≤g):n<((g+n / g) / 2+1)*((g+n / g) / 2+1):=by
 have h:=wm (n:=(n:Int)) (g:=(g:Int)) (by omega);unfold og at h
 exact_mod_cast h
theorem npos {n g:Nat}(hn:1≤n)(hg:1≤g):1≤(g+n / g) / 2:=by
 have h:=zG (n:=(n:Int)) (g:=(g:Int)) (by omega) (by omega);unfold og at h
 exact_mod_cast h
theorem z6R {n g:Nat}(hg:1≤g)(h:g≤(g+n / g) / 2):g*g≤n:=by
 have h:=wh (n:=(n:Int)) (g:=(g:Int)) (by omega) (by unfold og;exact_mod_cast h);exact_mod_cast h
def AbG (n g:Nat):Prop:=1≤g∧n<(g+1)*(g+1)
theorem vR (w₀:World):CV w₀ 20 #[.string ⟨#[48]⟩] (.string ⟨#[48]⟩):=by
 intro w hw;clear hw;go_enter func20,ntmps20
 go_wp2;go_ret
 exact⟨rfl,Below.refl _ _⟩
theorem zm (x:ByteArray)(n g0:Nat)(T:Nat→ByteArray)(q t:Nat→ByteArray)(hx:(x.toList==[48])=false)(hn:1≤n)(hg0:AbG n g0)(w₀:World)
 (hfg:CV w₀ 48 #[.string x] (.string (T g0)))
 (h1:∀ g,AbG n g→g≤g0→CV w₀ 19 #[.string x,.string (T g)] (.string (q g)))
 (h2:∀ g,AbG n g→g≤g0→CV w₀ 49 #[.string (q g)] (.string (T (n / g))))
 (h3:∀ g,AbG n g→g≤g0→CV w₀ 42 #[.string (T g),.string (T (n / g))] (.string (T (g+n / g))))
 (h4:∀ g,AbG n g→g≤g0→CV w₀ 21 #[.string (T (g+n / g)),.string ⟨#[49,47,50]⟩] (.string (t g)))
 (h5:∀ g,AbG n g→g≤g0→CV w₀ 49 #[.string (t g)] (.string (T ((g+n / g) / 2))))
 (h6:∀ g,AbG n g→g≤g0→CV w₀ 45 #[.string (T ((g+n / g) / 2)),.string (T g)] (.int .i64 (if (g+n / g) / 2<g then -1 else if g<(g+n / g) / 2 then 1 else 0))) :
 CV w₀ 20 #[.string x] (.string (T (isq n))):=by
 intro w hw;have C0:=hid (hfg.mono hw);have C1:=hid (fun g ha hg=>(h1 g ha hg).mono hw);have C2:=hid (fun g ha hg=>(h2 g ha hg).mono hw);have C3:=hid (fun g ha hg=>(h3 g ha hg).mono hw);have C4:=hid (fun g ha hg=>(h4 g ha hg).mono hw);have C5:=hid (fun g ha hg=>(h5 g ha hg).mono hw);have C6:=hid (fun g ha hg=>(h6 g ha hg).mono hw);have HN:=hid hn;have HG0:=hid hg0;clear hfg h1 h2 h3 h4 h5 h6 hw hn hg0;go_enter func20,ntmps20
 go_wp2_with fail
 refine(C0.o _ (Below.refl _ _)).mono ?_;rintro e w1 ⟨rfl,hb⟩;have HB:=hid (show Below w.heap.size w w1 from hb);clear hb;go_wp2;go_loopg [3] g0 (fun k s3 wr=>∃ g,k=g∧s3=.string (T g)∧Hid (AbG n g)∧Hid (g≤g0)∧Hid (Below w.heap.size w wr))
 case atStart=>exact⟨g0,rfl,rfl,HG0,hid (Nat.le_refl _),HB⟩
 case round =>
  obtain⟨g,rfl,rfl,ha,hg,hB⟩:=hrel;obtain ⟨D1,D2,D3,D4,D5,D6⟩:=cz (C1.o gk ha.o hg.o) (C2.o gk ha.o hg.o) (C3.o gk ha.o hg.o) (C4.o gk ha.o hg.o) (C5.o gk ha.o hg.o) (C6.o gk ha.o hg.o);have HS:=hid (z6S (n:=n) ha.o.1);have HP:=hid (npos HN.o ha.o.1);have HT:=hid (fun h=>z6R (n:=n) ha.o.1 h);generalize (gk+n / gk) / 2=nx at *;go_wp2_with fail
  refine(D1.o _ hB.o).mono ?_;rintro e w2 ⟨rfl,hb⟩;have B2:=hid (hB.o.trans (hb.mono hB.o.size));clear hb;go_wp2_with fail
  refine(D2.o _ B2.o).mono ?_;rintro e w3 ⟨rfl,hb⟩;have B3:=hid (B2.o.trans (hb.mono B2.o.size));clear hb;go_wp2_with fail
  refine(D3.o _ B3.o).mono ?_;rintro e w4 ⟨rfl,hb⟩;have B4:=hid (B3.o.trans (hb.mono B3.o.size));clear hb;go_wp2_with fail
  refine(D4.o _ B4.o).mono ?_;rintro e w5 ⟨rfl,hb⟩;have B5:=hid (B4.o.trans (hb.mono B4.o.size));clear hb;go_wp2_with fail
  refine(D5.o _ B5.o).mono ?_;rintro e w6 ⟨rfl,hb⟩;have B6:=hid (B5.o.trans (hb.mono B5.o.size));clear hb;by_cases hlt:nx<gk
  · rw[if_pos hlt]at D6
    have HLT:=hid hlt;clear hlt;go_wp2_with fail
    refine(D6.o _ B6.o).mono ?_;rintro e w7 ⟨rfl,hb⟩;have B7:=hid (B6.o.trans (hb.mono B6.o.size));clear hb;go_wp2;go_roundg nx
    case measure=>exact HLT.o
    case rel=>exact⟨nx,rfl,rfl,hid ⟨HP.o,HS.o⟩,hid (Nat.le_trans (Nat.le_of_lt HLT.o) hg.o),B7⟩
  · rw[if_neg hlt]at D6
    have HE:=hid (nH (HT.o (by omega)) ha.o.2);obtain⟨c,hc⟩:∃ c:Int,(if gk<nx then (1:Int) else 0)=c:=⟨_,rfl⟩;have hc0:decide (0≤c)=true:=decide_eq_true (by rw[← hc];split<;>decide);rw[hc]at D6;clear hc hlt;go_wp2_with fail
    refine(D6.o _ B6.o).mono ?_;rintro e w7 ⟨rfl,hb⟩;have B7:=hid (B6.o.trans (hb.mono B6.o.size));clear hb;go_wp2;go_ret
    exact⟨(by rw[HE.o];rfl),B7.o⟩
open Go.Lib (hid)
theorem wrap_small {z:Int}(h0:0≤z)(h1:z≤1000000):IntKind.i64.wrap z=z:=by
 have:z.natAbs≤1000000:=by omega
 simp[IntKind.wrap,IntKind.bits,IntKind.signed]
 omega
theorem uB (x:ByteArray)(w₀:World)  (h1:((x.size:Nat):Int).tdiv 4=0) :
 CV w₀ 48 #[.string x] (.string ⟨#[51,50]⟩):=by
 intro w hw;have k1:=h1;clear h1 hw;go_enter func48,ntmps48
 have wu:=hid (Below.refl w.heap.size w);go_wp2;exact bodyPost_ret (v:=.string ⟨#[51,50]⟩) (by simp[results,results48,go_sem]) rfl ⟨rfl,wu.o⟩
theorem vU (x hx r g z:ByteArray)(d m:Nat)(w₀:World)(h1:CV w₀ 20 #[.string hx] (.string r))(h2:CV w₀ 42 #[.string r,.string ⟨#[49]⟩] (.string g))(h3:CV w₀ 88 #[.string ⟨#[48]⟩,.int .i64 (d:Int)] (.string z))(e1:((x.size:Nat):Int).tdiv 4=(d:Int))(e2:IntKind.i64.wrap (d:Int)=(d:Int))(e3:((d:Int)==0)=false)(e4:IntKind.i64.wrap (2*(d:Int))=2*(d:Int))(e5:((x.size:Nat):Int)-2*(d:Int)=(m:Int))(e6:IntKind.i64.wrap (m:Int)=(m:Int))(e7:m≤x.size)(e8:x.extract 0 m=hx)(e9:g.size+z.size≤1000000) :
 CV w₀ 48 #[.string x] (.string (g++z)):=by
 intro w hw;obtain ⟨C1,C2,C3⟩:=ak (h1.mono hw) (h2.mono hw) (h3.mono hw);have k1:=e1;have k2:=e2;have k3:=e3;have k3':¬ (d:Int)=0:=by simpa using e3
 have k4:=e4;have k5:=e5;have k6:=e6;have k7:(m:Int)≤(x.size:Int):=by omega
 have k8:=e8;have k9:=fun W:World=>run_string_add_sum (P:=Tryz.prog) W g z (by omega);clear e1 e2 e3 e4 e5 e6 e7 e8 e9 h1 h2 h3 hw;go_enter func48,ntmps48
 have wu:=hid (Below.refl w.heap.size w);go_wp2_with fail
 with_reducible refine(C1.o _ wu.o).mono ?_
 rintro e W1 ⟨rfl,hb⟩;have w9:=hbt wu hb;clear hb;go_wp2_with fail
 with_reducible refine(C2.o _ w9.o).mono ?_
 rintro e W2 ⟨rfl,hb⟩;have u6:=hbt w9 hb;clear hb;go_wp2_with fail
 with_reducible refine(C3.o _ u6.o).mono ?_
 rintro e W3 ⟨rfl,hb⟩;have wo:=hbt u6 hb;clear hb;go_wp2;exact bodyPost_ret (v:=.string (g++z)) (by simp[results,results48,go_sem]) rfl ⟨rfl,wo.o⟩
def Stb (w:World) (g:Nat) (cs:Array Value) (_:TypeId):Prop:=g<w.heap.size∧∀ i v,cs[i]? = some v→w.cell? ⟨g,i,none⟩=some v
theorem Stb.cell {w:World}{g i:Nat}{cs:Array Value}{T:TypeId}{v:Value}(h:Stb w g cs T)(hi:cs[i]? = some v):w.cell? ⟨g,i,none⟩=some v:=h.2 i v hi
theorem Stb.below {w w':World}{g:Nat}{cs:Array Value}{T:TypeId}(h:Stb w g cs T)(hb:Below w.heap.size w w'):Stb w' g cs T :=
 ⟨Nat.lt_of_lt_of_le h.1 hb.size,fun i v hi=>(hb.cell (p:=⟨g,i,none⟩) h.1).trans (h.2 i v hi)⟩
instance {W W':World}{g:Nat}{c:Array Value}{T:TypeId}:Gr (Stb W g c T) W W' (Stb W' g c T):=⟨fun h k=>k.below h⟩
theorem z3p (g:Nat)(a b c:ByteArray)(w:World)(ha:a.size≤40)(hb:b.size≤40)(hc:c.size≤40)(hc:w.cell? ⟨g,0,none⟩=some (.string a)∧w.cell? ⟨g,1,none⟩=some (.string b)∧w.cell? ⟨g,2,none⟩=some (.string c)) :
 Calls Tryz.prog 5 #[.slice (some ⟨g,0,none⟩) 3 3] w fun e w'=>e=.returned (.bool false)∧w=w':=by
 obtain⟨c0,c1,c2⟩:=hc;have ka:¬ (40:Int)<(a.size:Int):=by omega
 have kb:¬ (40:Int)<(b.size:Int):=by omega
 have kc:¬ (40:Int)<(c.size:Int):=by omega
 go_enter func5,ntmps5
 go_wp2;refine wp_loop_rounds 4 ?_;rw[rounds_succ];go_wp2;rw[rounds_succ];go_wp2;rw[rounds_succ];go_wp2;rw[rounds_succ];go_wp2;go_ret
 exact⟨rfl,rfl⟩
set_option maxHeartbeats 1000000 in
theorem z1p (g:Nat)(a b c:ByteArray)(w:World)(hab:40<a.size∨40<b.size∨40<c.size)(hc:w.cell? ⟨g,0,none⟩=some (.string a)∧w.cell? ⟨g,1,none⟩=some (.string b)∧w.cell? ⟨g,2,none⟩=some (.string c)) :
 Calls Tryz.prog 5 #[.slice (some ⟨g,0,none⟩) 3 3] w fun e w'=>e=.returned (.bool true)∧w=w':=by
 obtain⟨c0,c1,c2⟩:=hc;by_cases ha:40<a.size
 · have ka:(40:Int)<(a.size:Int):=by omega
   clear hab;go_enter func5,ntmps5
   go_wp2;refine wp_loop_rounds 4 ?_;rw[rounds_succ];go_wp2;go_ret
   exact⟨rfl,rfl⟩
 · have ka:¬ (40:Int)<(a.size:Int):=by omega
   by_cases hb:40<b.size
   · have kb:(40:Int)<(b.size:Int):=by omega
     clear hab;go_enter func5,ntmps5
     go_wp2;refine wp_loop_rounds 4 ?_;rw[rounds_succ];go_wp2;rw[rounds_succ];go_wp2;go_ret
     exact⟨rfl,rfl⟩
   · have kb:¬ (40:Int)<(b.size:Int):=by omega
     have kc:(40:Int)<(c.size:Int):=by omega
     clear hab;go_enter func5,ntmps5
     go_wp2;refine wp_loop_rounds 4 ?_;rw[rounds_succ];go_wp2;rw[rounds_succ];go_wp2;rw[rounds_succ];go_wp2;go_ret
     exact⟨rfl,rfl⟩
