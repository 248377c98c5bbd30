/- texts -/
import Derived.Test.YteihfbkaieemdaaGreatDoorMz13q
open Go.Proofs.Tryz
set_option maxRecDepth 100000
set_option maxHeartbeats 20000000
open Go.Lib (hid)
namespace Go.Proofs.YteihfbkaieemdaaGreatDoor
open Go.RowKit Go.Gb
theorem kF {k:IntKind}{a b:Int}(h:a=b):Value.int k a=.int k b:=by rw[h]
theorem z2K {d:Nat}(h:d<10):Value.int .u8 (48+(d:Int))=.int .u8 ((UInt8.ofNat (48+d)).toNat:Int):=by
 rw[gB h];exact kF (by omega)
theorem wV {W:World}{B:Nat}{v:Value}{bs:List UInt8}{d:Nat}(hd:d<10)(h:W.ownsRow B 5 1 v (bs.length+1) (Lib.byteCells bs++[.int .u8 (48+(d:Int))])):W.ownsRow B 5 1 v (bs++[UInt8.ofNat (48+d)]).length (Lib.byteCells (bs++[UInt8.ofNat (48+d)])):=by
 rw[z2K hd]at h;rw[List.length_append,Lib.byteCells_append];exact h
theorem z3a (b o c:Nat)(xs:List Nat)(hx:∀ x∈xs,x<BB)(hp:0<xs.length)(hlast:xs.getD (xs.length-1) 0≠0)(hl:xs.length≤10000)(w:World)(hb:b<w.heap.size)
 (hcx:∀ i,i<xs.length→w.cell? ⟨b,o+i,none⟩=some (.int .u32 ((xs.getD i 0:Nat):Int))) :
 CR 100 #[.slice (some ⟨b,o,none⟩) xs.length c] w (.string ⟨(Lib.decDigits (aj xs)).toArray⟩):=by
 obtain⟨i0,hi,hz0,hz1,hz2⟩:=info_parts Tryz.info5;obtain ⟨HX,HCX,HLA,HO0⟩:=aL hx hcx hlast (World.ownsRow_nil w w.heap.size 5 1);have d0:((xs.length:Int)==0)=false:=beq_eq_false_iff_ne.2 (by omega);have HP:=hid hp;clear hx hcx hlast hp;go_enter func100,ntmps100
 go_wp2;go_loopw [3,4] (fun v ii wr=>∃ (i:Nat) (bs:List UInt8),i≤xs.length∧ii=.int .i64 i∧Hid (TOut xs bs i)∧Hid (wr.ownsRow w.heap.size 5 1 v bs.length (Lib.byteCells bs))∧Hid (Below w.heap.size w wr)) (fun _ ii _=>xs.length-(intOf ii).toNat)
 case atStart=>exact⟨0,[],Nat.zero_le _,rfl,TOut.zero HP.o,HO0,Below.refl _ _⟩
 case round =>
  obtain⟨i,bs,hi',rfl,hT,ho,hn⟩:=hrel;by_cases hlt:i<xs.length
  · have hcell:=(hn.o.cell (p:=⟨b,o+i,none⟩) hb).trans (HCX.o i hlt)
    have HS:=hid (TIn.start hT.o hlt);have hq0:=(TIn.start hT.o hlt).lt hlt HX.o;clear hT;generalize xs.getD i 0=x at *;go_wp2;obtain⟨wo,rfl⟩:∃ wo:World,wo=wr:=⟨_,rfl⟩;go_loopw [3,5,6] (fun v qq kk wr=>∃ (k q:Nat) (bs:List UInt8),k≤9∧q<1000000000∧kk=.int .i64 k∧qq=.int .u32 (q:Int)∧Hid (TIn xs bs i k q)∧Hid (wr.ownsRow w.heap.size 5 1 v bs.length (Lib.byteCells bs))∧Hid (Below w.heap.size w wr)) (fun _ _ kk _=>9-(intOf kk).toNat)
    case atStart=>exact⟨0,x,bs,by omega,hq0,rfl,rfl,HS,ho,hn⟩
    case round =>
        clear HS ho hn hcell hq0;obtain⟨k,q,bs,hk9,hq9,rfl,rfl,hI,ho,hn⟩:=hrel;have hbl:bs.length≤90009:=by have:=hI.o.len;omega
        have hq9':(q:Int)≤999999999:=by omega
        obtain⟨d,hd⟩:∃ d:Nat,d=q%10:=⟨_,rfl⟩;have hd10:d<10:=by omega
        have hmod:(q:Int)%10=(d:Int):=by omega
        have hd9:(d:Int)≤9:=by omega
        have w1:IntKind.u8.wrap (48+(d:Int))=48+(d:Int):=by rw[IntKind.wrap_u8];omega
        by_cases hg:k<9∧(i+1<xs.length∨0<q)
        · obtain⟨hk,hg⟩:=hg
          have HST:=hid (show TIn xs (bs++[UInt8.ofNat (48+d)]) i (k+1) (q / 10) by rw[hd];exact hI.o.step hlt HX.o hk hg);obtain ⟨Hd,Hd10⟩:=aB hd hd10;have k1:(k:Int)<9:=by omega
          clear hd hd10 hI;by_cases hl2:i+1<xs.length
          · have k2:(i:Int)+1<(xs.length:Int):=by omega
            clear hg;go_wp2_with (at_builtin;refine wpList_append_own _ rfl _ _ 148 rfl w.heap.size 5 i0 (.int .u8 0) 1 1 underlying148 hi hz0 hz1 hz2 rfl (by decide) _ _ _ rfl (ho.o.alloc _) ⟨wr.heap.size,0,none⟩ 1 1 [.int .u8 (48+(d:Int))] rfl rfl (cells_one _ _ _) (by intro u hu;simp at hu;subst hu;rfl) (by unfold maxLen;omega) (by omega) (by have:=hn.o.size;simp;omega) ?_)
            intro v' w1 hown' hgrow _;have HO:=hid (wV Hd10.o hown');have HN:=hid ((hn.o.alloc hn.o.size _).grown hgrow (by have:=hn.o.size;simp;omega) (fun k hk=>(ho.o.lt k hk).1));clear hown' hgrow;go_wp2;go_roundw
            case rel=>exact⟨k+1,q / 10,_,by omega,by omega,by go_num,kF (by omega),HST,HO,HN⟩
            case measure=>simp[intOf];omega
          · have k2:decide ((i:Int)+1<(xs.length:Int))=false:=decide_eq_false (by omega)
            have k3:0<(q:Int):=by omega
            clear hg;go_wp2_with (at_builtin;refine wpList_append_own _ rfl _ _ 148 rfl w.heap.size 5 i0 (.int .u8 0) 1 1 underlying148 hi hz0 hz1 hz2 rfl (by decide) _ _ _ rfl (ho.o.alloc _) ⟨wr.heap.size,0,none⟩ 1 1 [.int .u8 (48+(d:Int))] rfl rfl (cells_one _ _ _) (by intro u hu;simp at hu;subst hu;rfl) (by unfold maxLen;omega) (by omega) (by have:=hn.o.size;simp;omega) ?_)
            intro v' w1 hown' hgrow _;have HO:=hid (wV Hd10.o hown');have HN:=hid ((hn.o.alloc hn.o.size _).grown hgrow (by have:=hn.o.size;simp;omega) (fun k hk=>(ho.o.lt k hk).1));clear hown' hgrow;go_wp2;go_roundw
            case rel=>exact⟨k+1,q / 10,_,by omega,by omega,by go_num,kF (by omega),HST,HO,HN⟩
            case measure=>simp[intOf];omega
        · have HD:=hid (hI.o.done hlt HX.o HLA.o (by omega))
          clear hd hd10 hmod w1;by_cases hk:k<9
          · have k1:(k:Int)<9:=by omega
            have k2:decide ((i:Int)+1<(xs.length:Int))=false:=decide_eq_false (by omega);have k3:decide (0<(q:Int))=false:=decide_eq_false (by omega);have k4:decide (0<q)=false:=decide_eq_false (by omega);have k5:¬ 0<q:=by omega
            clear hg hI;go_wp2;go_roundw
            case rel=>exact⟨i+1,bs,by omega,by go_num,HD,ho,hn⟩
            case measure=>simp[intOf];omega
          · have k1:decide ((k:Int)<9)=false:=decide_eq_false (by omega)
            have k2:¬ (k:Int)<9:=by omega
            clear hg hI;go_wp2;go_roundw
            case rel=>exact⟨i+1,bs,by omega,by go_num,HD,ho,hn⟩
            case measure=>simp[intOf];omega
  · have hi2:i=xs.length:=by omega
    have hT':=hT.o;have hbl:=hT'.len HX.o;rw[hi2]at hT';obtain⟨hrev,hbp⟩:=hT'.done;obtain⟨g,cap,rfl,hg,hcm,hR⟩:=RowB.of_own ho.o hbp;obtain⟨n,hn0⟩:∃ n,n=bs.length:=⟨_,rfl⟩;have HR0:=hid (show RowB wr g cap (swp bs 0) by rw[z1v];exact hR);obtain ⟨Hg,HREV⟩:=aB hg hrev;rw[← hn0]at hbl hbp;have Hn0:=hid hn0;have k1:decide ((i:Int)<(xs.length:Int))=false:=decide_eq_false (by omega);rw[← hn0];clear hT hT' hrev ho hR hg hi2 hn0 hcm;go_wp2;obtain⟨wo,rfl⟩:∃ wo:World,wo=wr:=⟨_,rfl⟩;go_loopw [7,8] (fun ii kk wr=>∃ (i k:Nat),i+k+1=n∧ii=.int .i64 i∧kk=.int .i64 k∧Hid (RowB wr g cap (swp bs i))∧Hid (Below w.heap.size w wr)) (fun ii _ _=>n-(intOf ii).toNat)
    case atStart=>exact⟨0,n-1,by omega,rfl,kF (by omega),HR0,hn⟩
    case round =>
        clear HR0 hn;obtain⟨i,k,hik,rfl,rfl,hR,hn⟩:=hrel;have hnl:=Hn0.o;by_cases hlk:i<k
        · have hkk:bs.length-1-i=k:=by omega
          have hc1:=hR.o.cell (i:=i) (by rw[ek];omega);have hc2:=hR.o.cell (i:=k) (by rw[ek];omega);rw[z3M bs i (by omega)]at hc1;have hh:=z1x bs i (by omega);rw[hkk]at hh;rw[hh]at hc2;have hs:=z1w bs i (by omega);rw[hkk]at hs;have hf1:=hR.o.free i;have hf2:=hR.o.free k;obtain⟨x,hx⟩:∃ x,x=bs.getD i 0:=⟨_,rfl⟩;obtain⟨y,hy⟩:∃ y,y=bs.getD k 0:=⟨_,rfl⟩;rw[← hx]at hc1 hs;rw[← hy]at hc2 hs
          have HSET:=hid (show RowB (((wr.setCell ⟨g,i,none⟩ (.int .u8 (y.toNat:Int))).setCell ⟨g,k,none⟩ (.int .u8 (x.toNat:Int))).drew) g cap (swp bs (i+1)) by
           have h1:=(hR.o.set i y).set k x;rw[hs]at h1
           exact h1)
          have HB:=hid (((hn.o.setCell (p:=⟨g,i,none⟩) Hg.o (.int .u8 (y.toNat:Int))).setCell (p:=⟨g,k,none⟩) Hg.o (.int .u8 (x.toNat:Int))).drew);have hne:¬ i=k:=by omega
          have j1:(i:Int)<(k:Int):=by omega
          have j2:(k:Int)<(n:Int):=by omega
          have hc3:(wr.setCell ⟨g,i,none⟩ (.int .u8 (y.toNat:Int))).cell? ⟨g,k,none⟩=some (.int .u8 (y.toNat:Int)):=(World.cell?_setCell_other _ _ _ _ (by intro e;injection e with e1 e2;exact hne e2)).trans hc2;clear hx hy hs hh hkk hR hn hnl;generalize x.toNat=a at *;generalize y.toNat=b2 at *;go_wp2;go_region
          go_wp2;go_roundw
          case rel=>exact⟨i+1,k-1,by omega,by go_num,kF (by omega),HSET,HB⟩
          case measure=>simp[intOf];omega
        · have hsd:=z1y bs i (by omega)
          have hR':=hR.o;rw[hsd,HREV.o]at hR';have hdl:(Lib.decDigits (aj xs)).length=n:=by rw[← HREV.o,List.length_reverse];omega
          have hcv:(convert 148 9 (.slice (some ⟨g,0,none⟩) n cap)).run Tryz.prog wr=.ok (.string ⟨(Lib.decDigits (aj xs)).toArray⟩) wr:=by
           have h:=run_convert_bytes_back (P:=Tryz.prog) wr 148 9 5 ⟨g,0,none⟩ cap (Lib.decDigits (aj xs)) underlying148 underlying5 underlying9 (fun j hj=>by
            have h1:=hR'.cell hj;rw[Lib.add_plain,Nat.zero_add,h1]
            simp[List.getD,hj])
           rw[hdl]at h;exact h
          have k2:decide ((i:Int)<(k:Int))=false:=decide_eq_false (by omega);clear hsd hR hR' hdl hnl;go_wp2;go_ret
          exact⟨rfl,hn.o⟩
open Go.Lib (hid)
theorem z3b (a1 a2:Option Addr)(n m c1 c2:Nat)(h:n≠m)(w:World) :
 Calls Tryz.prog 101 #[.slice a1 n c1,.slice a2 m c2] w fun e w'=>e=.returned (.int .i64 (cmpN n m))∧w=w':=by
 have hb:((n:Int) != (m:Int))=true:=bne_iff_ne.2 (by omega);by_cases hlt:n<m
 · have HF:=hid (gI hlt)
   go_enter func101,ntmps101
   go_wp2;go_ret
   exact⟨dQ HF.o.symm,rfl⟩
 · have HF:=hid (iP (show m<n by omega))
   go_enter func101,ntmps101
   go_wp2;go_ret
   exact⟨dQ HF.o.symm,rfl⟩
theorem z18 (b1 o1 c1 b2 o2 c2:Nat)(xs ys:List Nat)(hxy:xs.length=ys.length)(hx:∀ x∈xs,x<BB)(hy:∀ y∈ys,y<BB)(hl:xs.length≤1000000)(w:World)
 (hcx:∀ i,i<xs.length→w.cell? ⟨b1,o1+i,none⟩=some (.int .u32 ((xs.getD i 0:Nat):Int)))
 (hcy:∀ i,i<ys.length→w.cell? ⟨b2,o2+i,none⟩=some (.int .u32 ((ys.getD i 0:Nat):Int))) :
 CR 101 #[.slice (some ⟨b1,o1,none⟩) xs.length c1,.slice (some ⟨b2,o2,none⟩) xs.length c2] w (.int .i64 (cmpN (aj xs) (aj ys))):=by
 obtain ⟨HXY,HX,HY,HCX,HCY⟩:=bI hxy hx hy hcx hcy;clear hxy hx hy hcx hcy;have hb:((xs.length:Int) != (xs.length:Int))=false:=by simp
 go_enter func101,ntmps101
 go_wp2;go_loopw [5] (fun ii wr=>∃ z:Int,-1≤z∧z<xs.length∧ii=.int .i64 z∧Hid (z1d xs ys (z+1).toNat)∧Hid (Below w.heap.size w wr)) (fun ii _=>(intOf ii+1).toNat)
 case atStart=>exact⟨(xs.length:Int)-1,by omega,by omega,rfl,fun j h1 h2=>absurd h1 (by omega),Below.refl _ _⟩
 case round =>
  obtain⟨z,hz1',hz8,rfl,he,hn⟩:=hrel;by_cases hz:0≤z
  · obtain⟨j,rfl⟩:=Int.eq_ofNat_of_zero_le hz
    have hb1:=World.block_lt_of_cell? _ _ (HCX.o j (by omega));have hb2:=World.block_lt_of_cell? _ _ (HCY.o j (by have:=HXY.o;omega));have hcx:=(hn.o.cell (p:=⟨b1,o1+j,none⟩) hb1).trans (HCX.o j (by omega));have hcy:=(hn.o.cell (p:=⟨b2,o2+j,none⟩) hb2).trans (HCY.o j (by have:=HXY.o;omega));have he':=he.o;rw[show((j:Int)+1).toNat=j+1 by omega]at he';have HE:=hid he';clear he' he;have hjl:=hid (show j<xs.length by omega);have hL:xs.getD j 0<ys.getD j 0→aj xs<aj ys:=fun h=>jS HXY.o hjl.o HX.o (fun k h1 h2=>HE.o k (by omega) h2) h;have hG:ys.getD j 0<xs.getD j 0→aj ys<aj xs:=fun h=>jS HXY.o.symm (by have:=HXY.o;have:=hjl.o;omega) HY.o (fun k h1 h2=>(HE.o k (by omega) (by have:=HXY.o;omega)).symm) h;obtain ⟨HL,HG⟩:=aB hL hG
    have HEQ:=hid (show xs.getD j 0=ys.getD j 0→z1d xs ys j from fun h k h1 h2=>by
        by_cases hk:k=j
        · subst hk;exact h
        · exact HE.o k (by omega) h2)
    clear hL hG HE;generalize xs.getD j 0=x at *;generalize ys.getD j 0=y at *;clear hb1 hb2;have i1:(0:Int)≤(j:Int):=by omega
    have i2:(j:Int)<(xs.length:Int):=by omega
    by_cases h1:x<y
    · have HF:=hid (gI (HL.o h1))
      go_wp2;go_quiet (fail)
      have HN2:=hid (below_drewN' hn.o nq);go_wp2;go_ret
      exact⟨dQ HF.o.symm,HN2.o⟩
    · by_cases h2:y<x
      · have HF:=hid (iP (HG.o h2))
        go_wp2;go_quiet (fail)
        go_wp2;have hn2:=below_drewN' hn.o nq;have hcx2:(wr.drewN nq).cell? ⟨b1,o1+j,none⟩=some (.int .u32 (x:Int)):=hcx;have hcy2:(wr.drewN nq).cell? ⟨b2,o2+j,none⟩=some (.int .u32 (y:Int)):=hcy;have HN2:=hid hn2;clear hcx hcy hn2;generalize wr.drewN nq=w2 at *;go_quiet (fail)
        have HN3:=hid (below_drewN' HN2.o nq);go_wp2;go_ret
        exact⟨dQ HF.o.symm,HN3.o⟩
      · have HF:=hid (HEQ.o (by omega))
        go_wp2;go_quiet (fail)
        go_wp2;have hn2:=below_drewN' hn.o nq;have hcx2:(wr.drewN nq).cell? ⟨b1,o1+j,none⟩=some (.int .u32 (x:Int)):=hcx;have hcy2:(wr.drewN nq).cell? ⟨b2,o2+j,none⟩=some (.int .u32 (y:Int)):=hcy;have HN2:=hid hn2;clear hcx hcy hn2;generalize wr.drewN nq=w2 at *;go_quiet (fail)
        have HN3:=hid (below_drewN' HN2.o nq);go_wp2;go_roundw
        case rel=>exact⟨(j:Int)-1,by omega,by omega,rfl,by rw[show((j:Int)-1+1).toNat=j by omega];exact HF,HN3⟩
        case measure=>simp[intOf]
  · have hz0':(z+1).toNat=0:=by omega
    have he':=he.o;rw[hz0']at he';have heq:=hid (nT HXY.o (fun j hj=>he' j (by omega) hj));clear he' hz0';go_wp2;go_ret
    exact⟨dQ (by rw[heq.o,rG]),hn.o⟩
theorem z19 (a1 a2:Option Addr)(c1 c2:Nat)(w:World) :
 Calls Tryz.prog 101 #[.slice a1 0 c1,.slice a2 0 c2] w fun e w'=>e=.returned (.int .i64 0)∧w=w':=by
 go_enter func101,ntmps101
 go_wp2;refine wp_loop_rounds 1 ?_;rw[rounds_succ];go_wp2;go_ret
 exact⟨rfl,rfl⟩
theorem mY (v1 v2:Value)(a b:Nat)(hl:(ae a).length≤1000000)(w:World)(h1:Rd .u32 w v1 (ae a))(h2:Rd .u32 w v2 (ae b)) :
 CR 101 #[v1,v2] w (.int .i64 (cmpN a b)):=by
 by_cases hne:(ae a).length=(ae b).length
 · by_cases h0:(ae a).length=0
   · have ha:a=0:=by have:=aA a;rw[List.length_eq_zero_iff.1 h0]at this;exact this.symm
     have hb:b=0:=by have:=aA b;rw[List.length_eq_zero_iff.1 (show(ae b).length=0 by omega)]at this;exact this.symm
     obtain⟨a1,c1,rfl⟩:=aW h1;obtain⟨a2,c2,rfl⟩:=aW h2;rw[← hne,h0];exact(z19 a1 a2 c1 c2 w).mono fun e w' ⟨g1,g2⟩=>⟨by rw[g1,ha,hb,rG],g2▸Below.refl _ _⟩
   · obtain⟨b1,o1,c1,rfl,_,_,_,r1⟩:=dR h1 (by omega)
     obtain⟨b2,o2,c2,rfl,_,_,_,r2⟩:=dR h2 (by omega);have:=z18 b1 o1 c1 b2 o2 c2 (ae a) (ae b) hne (aU a) (aU b) hl w r1 r2;rw[aA,aA]at this;rw[← hne];exact this
 · obtain⟨a1,c1,rfl⟩:=aW h1
   obtain⟨a2,c2,rfl⟩:=aW h2;refine(z3b a1 a2 _ _ c1 c2 hne w).mono fun e w' ⟨g1,g2⟩=>⟨?_,g2▸Below.refl _ _⟩;rw[g1];refine dQ ?_;rcases Nat.lt_or_ge (ae a).length (ae b).length with h|h
   · rw[gI h,gI (eQ h)]
   · have h':(ae b).length<(ae a).length:=by omega
     rw[iP h',iP (eQ h')]
end Go.Proofs.YteihfbkaieemdaaGreatDoor
open Go.Lib (hid)
namespace Go.Proofs.YteihfbkaieemdaaGreatDoor
open Go.RowKit Go.Gb
theorem xw {B:Nat}{w:World}{a:Option Addr}{n c:Nat}{xs:List Nat}(h:Own .u64 131 B w (.slice a n c) xs)(hp:0<n):∃ g,a=some ⟨g,0,none⟩∧n=xs.length∧B≤g∧g<w.heap.size:=by
 obtain⟨h1,h2⟩:=h;rcases h2 with⟨h2,_⟩|⟨g,cap,cur,hv,hg,hh,_⟩
 · injection h2 with e1 e2 e3;omega
 · injection hv with e1 e2 e3
   exact⟨g,e1,e2,hg,(Array.getElem?_eq_some_iff.1 hh).1⟩
theorem xy {B:Nat}{w:World}{g n c:Nat}{xs:List Nat}(h:Own .u64 131 B w (.slice (some ⟨g,0,none⟩) n c) xs)(hn:n=xs.length){i:Nat}(hi:i<n):w.cell? ⟨g,i,none⟩=some (.int .u64 ((xs.getD i 0:Nat):Int)):=by
 subst hn;have:=World.ownsRow.cellAt (w:=w) (size:=1) h i (by omega);rw[this];exact jI hi
theorem xu {B:Nat}{w:World}{g n c:Nat}{xs:List Nat}(h:Own .u64 131 B w (.slice (some ⟨g,0,none⟩) n c) xs)(hn:n=xs.length)(i:Nat):w.frozen? ⟨g,i,none⟩=false:=by
 subst hn;exact World.ownsRow.frozenAt (w:=w) (size:=1) h i
theorem tu {B:Nat}{w:World}{g n c:Nat}{xs:List Nat}(h:Own .u64 131 B w (.slice (some ⟨g,0,none⟩) n c) xs)(hn:n=xs.length)(i r:Nat):Own .u64 131 B (w.setCell ⟨g,i,none⟩ (.int .u64 (r:Int))) (.slice (some ⟨g,0,none⟩) n c) (xs.set i r):=by
 subst hn;have:=(World.ownsRow.stored (w:=w) (size:=1) h i (.int .u64 (r:Int))).1;unfold Own
 rw[rH,List.length_set];exact this
theorem tC {B:Nat}{w:World}{v:Value}{xs:List Nat}(h:Own .u64 131 B w v xs){g:Nat}(hg:¬ At v g)(i:Nat)(u:Value):Own .u64 131 B (w.setCell ⟨g,i,none⟩ u) v xs :=
 h.kp (S:=fun k=>k=g) ((Kp.refl (fun k=>k=g) w).set (p:=⟨g,i,none⟩) (fun _=>rfl) u) (fun _ hk e=>hg (e▸hk))
theorem sK (w:World)(p:Addr)(u:Value):(w.setCell p u).heap.size=w.heap.size:=by simp[World.setCell]
theorem zQ (ys r:List Nat)(x:Nat):(ys++(x :: r)).getD ys.length 0=x:=by simp[List.getD]
theorem zP (ys r:List Nat)(x v:Nat):(ys++(x :: r)).set ys.length v=(ys++[v])++r:=by simp
theorem xR {p q:Int}{X Y os:List Nat}{i:Nat}{k:Int}(h:mh p q X Y os i k)(hx:X.getD i 0<BB)(hy:Y.getD i 0<BB)(hp1 : -1000000000≤p)(hp2:p≤1000000000)(hq1 : -1000000000≤q)(hq2:q≤1000000000) :
 ∃ (r:Nat) (j:Int),mh p q X Y (os++[r]) (i+1) j∧r<1000000000 ∧ -3000000000≤j∧j≤3000000000 ∧
   ∀ W,Calls Tryz.prog 246 #[.int .i64 (p*(X.getD i 0:Int)+q*(Y.getD i 0:Int)+k)] W fun e w'=>e=.returned (.tuple #[.int .u64 (r:Int),.int .i64 j])∧W=w':=by
 obtain⟨b0,b1,hb⟩:=h.step hx hy hp1 hp2 hq1 hq2;refine⟨_,_,hb,by omega,hb.2.2.1,hb.2.2.2.1,fun W=>?_⟩;have hs:=zB _ b0 b1 W;rw[Int.toNat_of_nonneg (Int.emod_nonneg _ (by decide))];exact hs
theorem jK (B:Nat)(v1 v2:Value)(xs ys:List Nat)(a b c d:Int)(z1 z2:Nat)(w:World)
 (ha1 : -1000000000≤a) (ha2:a≤1000000000) (hb1 : -1000000000≤b) (hb2:b≤1000000000) (hc1 : -1000000000≤c) (hc2:c≤1000000000) (hd1 : -1000000000≤d) (hd2:d≤1000000000)
 (hx:∀ x∈xs,x<BB) (hy:∀ y∈ys,y<BB) (hlx:xs.length≤90000) (hly:ys.length≤90000)
 (e1:a*(aj xs:Int)+b*(aj ys:Int)=(z1:Int)) (e2:c*(aj xs:Int)+d*(aj ys:Int)=(z2:Int))
 (h1:Own .u64 131 B w v1 xs) (h2:Own .u64 131 B w v2 ys) (hs:Apt v1 v2) (hB:B≤w.heap.size) :
 Calls Tryz.prog 230 #[v1,v2,.int .i64 a,.int .i64 b,.int .i64 c,.int .i64 d] w fun e w'=>∃ u1 u2,e=.returned (.tuple #[u1,u2])∧Own .u64 131 B w' u1 (ae z1)∧Own .u64 131 B w' u2 (ae z2) ∧
  Apt u1 u2∧gD w v1 u1∧gD w v2 u2∧Kp (fun g=>At v1 g∨At v2 g) w w':=by
 obtain⟨n,hn⟩:∃ n,n=max xs.length ys.length:=⟨_,rfl⟩;have hmx:max (xs.length:Int) (ys.length:Int)=(n:Int):=by omega
 obtain⟨X,hX⟩:∃ X,X=xs++List.replicate (n-xs.length) 0:=⟨_,rfl⟩;obtain⟨Y,hY⟩:∃ Y,Y=ys++List.replicate (n-ys.length) 0:=⟨_,rfl⟩;have hXl:X.length=n:=by rw[hX,List.length_append,List.length_replicate];omega
 have hYl:Y.length=n:=by rw[hY,List.length_append,List.length_replicate];omega
 have hXB:∀ x∈X,x<BB:=by
  intro x hx';rw[hX]at hx';rcases List.mem_append.1 hx' with h|h
  · exact hx x h
  · rw[(List.mem_replicate.1 h).2];exact bP
 have hYB:∀ y∈Y,y<BB:=by
  intro y hy';rw[hY]at hy';rcases List.mem_append.1 hy' with h|h
  · exact hy y h
  · rw[(List.mem_replicate.1 h).2];exact bP
 have hXv:aj X=aj xs:=by rw[hX];exact fB xs _
 have hYv:aj Y=aj ys:=by rw[hY];exact fB ys _
 rw[← hXv,← hYv]at e1 e2
 have HP1:=hid (show ∀ W,Own .u64 131 B W v1 xs→B≤W.heap.size→Calls Tryz.prog 245 #[v1,.int .i64 (n:Int)] W fun e w'=>∃ u,e=.returned u∧Own .u64 131 B w' u X∧gD W v1 u∧Kp (At v1) W w' from
  fun W h hBW=>by rw[hX];exact z03 B v1 xs n (by omega) (by omega) W h hBW)
 have HP2:=hid (show ∀ W,Own .u64 131 B W v2 ys→B≤W.heap.size→Calls Tryz.prog 245 #[v2,.int .i64 (n:Int)] W fun e w'=>∃ u,e=.returned u∧Own .u64 131 B w' u Y∧gD W v2 u∧Kp (At v2) W w' from
  fun W h hBW=>by rw[hY];exact z03 B v2 ys n (by omega) (by omega) W h hBW)
 have hn9:n≤90000:=by omega
 obtain⟨a1,c1,rfl⟩:=aW h1.rd;obtain⟨a2,c2,rfl⟩:=aW h2.rd;obtain ⟨HXB,HYB,HXL,HYL,HE1,HE2,H1,H2,HS⟩:=dG hXB hYB hXl hYl e1 e2 h1 h2 hs;have HB:=hid hB;clear hn hX hY hXl hYl hXB hYB hXv hYv e1 e2 h1 h2 hs hB hx hy;go_enter func230,ntmps230
 go_wp2_with fail
 refine(HP1.o _ H1.o HB.o).mono ?_;rintro e w1 ⟨u1,rfl,ho1,hno1,hk1⟩;have ho2:=H2.o.kp hk1 (fun g h h'=>HS.o g h' h);have hs1:Apt u1 (.slice a2 ys.length c2):=HS.o.newOr hno1 (fun g hg=>(H2.o.at hg).2);obtain ⟨HO1,HO2,HN1,HK1,HS1⟩:=bI ho1 ho2 hno1 hk1 hs1;clear ho1 ho2 hno1 hk1 hs1;go_wp2_with fail
 refine(HP2.o _ HO2.o (Nat.le_trans HB.o HK1.o.size)).mono ?_;rintro e w2 ⟨u2,rfl,ho2,hno2,hk2⟩;have ho1:=HO1.o.kp hk2 (fun g h h'=>HS1.o g h h');have hs2:Apt u1 u2:=(HS1.o.symm.newOr hno2 (fun g hg=>(HO1.o.at hg).2)).symm;have HN2:=hid (show gD w (.slice a2 ys.length c2) u2 from(gD.refl w _).trans hno2 HK1.o.size);have HK2:=hid (show Kp (fun g=>At (.slice a1 xs.length c1) g∨At (.slice a2 ys.length c2) g) w w2 from(HK1.o.mono (fun _ h=>Or.inl h)).trans hk2 (fun _ _ h=>Or.inr h));obtain⟨b1,k1,rfl⟩:=aW ho1.rd;obtain⟨b2,k2,rfl⟩:=aW ho2.rd;rw[HXL.o]at ho1 hs2 HN1;rw[HYL.o]at ho2 hs2 HN2;rw[HXL.o,HYL.o];obtain ⟨HO1,HO2,HS2⟩:=ak ho1 ho2 hs2;clear ho1 ho2 hno2 hk2 hs2 HP1 HP2 HS1 HK1;go_wp2
 go_loopw [15,16,17,18,19,20,34] (fun f1 f2 _ _ _ _ ii wr=>∃ (i:Nat) (j1 j2:Int) (o1 o2:List Nat),i≤n∧ii=.int .i64 (i:Int)∧f1=.int .i64 j1∧f2=.int .i64 j2∧Hid (mh a b X Y o1 i j1)∧Hid (mh c d X Y o2 i j2) ∧
  Hid (Own .u64 131 B wr (.slice b1 n k1) (o1++X.drop i))∧Hid (Own .u64 131 B wr (.slice b2 n k2) (o2++Y.drop i))∧Hid (Kp (fun g=>At (.slice a1 xs.length c1) g∨At (.slice a2 ys.length c2) g) w wr)∧Hid (w2.heap.size=wr.heap.size)) (fun _ _ _ _ _ _ ii _=>n-(intOf ii).toNat)
 case atStart=>exact⟨0,0,0,[],[],Nat.zero_le _,rfl,rfl,rfl,mh.start _ _ _ _,mh.start _ _ _ _,by rw[List.drop_zero];exact HO1.o,by rw[List.drop_zero];exact HO2.o,HK2.o,rfl⟩
 case round =>
  obtain⟨i,j1,j2,o1,o2,hi,rfl,rfl,rfl,hi1,hi2,hO1,hO2,hK,hZ⟩:=hrel;clear HO1 HO2 HK2;by_cases hlt:i<n
  · obtain⟨g1,rfl,hl1,hg1B,hg1⟩:=xw hO1.o (by omega)
    obtain⟨g2,rfl,hl2,hg2B,hg2⟩:=xw hO2.o (by omega);have hne:g1≠g2:=fun e=>HS2.o g1 (fU.2 rfl) (fU.2 e.symm);have hne':¬ g2=g1:=fun e=>hne e.symm;have ol1:=hi1.o.1;have ol2:=hi2.o.1;have x9:=getD_lt HXB.o i;have y9:=getD_lt HYB.o i;obtain⟨r1,m1,hn1,hr1,ml1,mu1,hs1⟩:=xR hi1.o x9 y9 ha1 ha2 hb1 hb2;obtain⟨r2,m2,hn2,hr2,ml2,mu2,hs2⟩:=xR hi2.o x9 y9 hc1 hc2 hd1 hd2;have q1:=Go.Gb.prod_bound ha1 ha2 x9;have q2:=Go.Gb.prod_bound hb1 hb2 y9;have q3:=Go.Gb.prod_bound hc1 hc2 x9;have q4:=Go.Gb.prod_bound hd1 hd2 y9;have jl1:=hi1.o.2.2.1;have ju1:=hi1.o.2.2.2.1;have jl2:=hi2.o.2.2.1;have ju2:=hi2.o.2.2.2.1;have dx:X.drop i=X.getD i 0 :: X.drop (i+1):=fD (by rw[HXL.o];exact hlt);have dy:Y.drop i=Y.getD i 0 :: Y.drop (i+1):=fD (by rw[HYL.o];exact hlt);have P1:=hO1.o;have P2:=hO2.o;rw[dx]at P1 hl1;rw[dy]at P2 hl2;have cx:=xy P1 hl1 (i:=i) hlt;have cy:=xy P2 hl2 (i:=i) hlt;have fx:=xu P1 hl1 i;have fy:=xu P2 hl2 i;have gx:=zQ o1 (X.drop (i+1)) (X.getD i 0);have gy:=zQ o2 (Y.drop (i+1)) (Y.getD i 0);rw[ol1]at gx;rw[ol2]at gy;rw[gx]at cx;rw[gy]at cy;have w1':=tu P1 hl1 i r1;have sx:=zP o1 (X.drop (i+1)) (X.getD i 0) r1;have sy:=zP o2 (Y.drop (i+1)) (Y.getD i 0) r2;rw[ol1]at sx;rw[ol2]at sy;rw[sx]at w1';have nA2:¬ At (.slice (some ⟨g2,0,none⟩) n k2) g1:=fun h=>hne' (fU.1 h);have nA1:¬ At (.slice (some ⟨g1,0,none⟩) n k1) g2:=fun h=>hne (fU.1 h);have w2':=tu (tC P2 nA2 i (.int .u64 (r1:Int))) hl2 i r2;rw[sy]at w2';obtain ⟨HW1,HW2⟩:=aB (tC w1' nA1 i (.int .u64 (r2:Int))) w2'
    have kk:Kp (fun g=>At (.slice a1 xs.length c1) g∨At (.slice a2 ys.length c2) g) w ((wr.setCell ⟨g1,i,none⟩ (.int .u64 (r1:Int))).setCell ⟨g2,i,none⟩ (.int .u64 (r2:Int))):=by
        refine(hK.o.set (p:=⟨g1,i,none⟩) (fun hlt=>?_) _).set (p:=⟨g2,i,none⟩) (fun hlt=>?_) _
        · rcases HN1.o g1 (fU.2 rfl) with h|h
          · exact Or.inl h
          · exact absurd hlt (by show ¬ g1<_;omega)
        · rcases HN2.o g2 (fU.2 rfl) with h|h
          · exact Or.inr h
          · exact absurd hlt (by show ¬ g2<_;omega)
    obtain ⟨HKK,HN1',HN2',HS1,HSS2⟩:=bI kk hn1 hn2 hs1 hs2;clear P1 P2 w1' w2' sx sy gx gy dx dy kk hn1 hn2 hs1 hs2 ol1 ol2 hl1 hl2 hO1 hO2 hi1 hi2 hK nA1 nA2;rw[aG]at x9 y9;generalize X.getD i 0=x at *;generalize Y.getD i 0=y at *;obtain⟨pa,hpa⟩:∃ t,t=a*(x:Int):=⟨_,rfl⟩;obtain⟨pb,hpb⟩:∃ t,t=b*(y:Int):=⟨_,rfl⟩;obtain⟨pc,hpc⟩:∃ t,t=c*(x:Int):=⟨_,rfl⟩;obtain⟨pd,hpd⟩:∃ t,t=d*(y:Int):=⟨_,rfl⟩;rw[← hpa,← hpb]at HS1;rw[← hpc,← hpd]at HSS2;rw[← hpa]at q1;rw[← hpb]at q2;rw[← hpc]at q3;rw[← hpd]at q4;have ea:=hpa.symm;have eb:=hpb.symm;have ec:=hpc.symm;have ed:=hpd.symm;obtain⟨q1l,q1u⟩:=q1;obtain⟨q2l,q2u⟩:=q2;obtain⟨q3l,q3u⟩:=q3;obtain⟨q4l,q4u⟩:=q4;have v1:IntKind.i64.wrap pa=pa:=IntWalk.i64_in _ (by omega);have v2:IntKind.i64.wrap pb=pb:=IntWalk.i64_in _ (by omega);have v3:IntKind.i64.wrap pc=pc:=IntWalk.i64_in _ (by omega);have v4:IntKind.i64.wrap pd=pd:=IntWalk.i64_in _ (by omega);have v5:IntKind.i64.wrap (pa+pb)=pa+pb:=IntWalk.i64_in _ (by omega);have v6:IntKind.i64.wrap (pa+pb+j1)=pa+pb+j1:=IntWalk.i64_in _ (by omega);have v7:IntKind.i64.wrap (pc+pd)=pc+pd:=IntWalk.i64_in _ (by omega);have v8:IntKind.i64.wrap (pc+pd+j2)=pc+pd+j2:=IntWalk.i64_in _ (by omega);clear hpa hpb hpc hpd;go_wp2_with fail
    refine(HS1.o _).mono ?_;rintro e w' ⟨rfl,rfl⟩;go_wp2_with fail
    refine(HSS2.o _).mono ?_;rintro e w' ⟨rfl,rfl⟩;clear v1 v2 v3 v4 v5 v6 v7 v8 ea eb ec ed;go_wp2;go_roundw
    case rel=>exact⟨i+1,m1,m2,o1++[r1],o2++[r2],by omega,by go_num,rfl,rfl,HN1',HN2',HW1,HW2,HKK,by show w2.heap.size=_;rw[sK,sK];exact hZ.o⟩
    case measure=>simp[intOf];omega
  · obtain rfl:i=n:=by omega
    obtain⟨z1n,hw1,hlt1⟩:=hi1.o.done (by rw[HXL.o];exact Nat.le_refl _) (by rw[HYL.o];exact Nat.le_refl _) HE1.o;obtain⟨z2n,hw2,hlt2⟩:=hi2.o.done (by rw[HXL.o];exact Nat.le_refl _) (by rw[HYL.o];exact Nat.le_refl _) HE2.o;have ju1:=hi1.o.2.2.2.1;have ju2:=hi2.o.2.2.2.1;have ol1:=hi1.o.1;have ol2:=hi2.o.1;obtain⟨m1,rfl⟩:=Int.eq_ofNat_of_zero_le z1n;obtain⟨m2,rfl⟩:=Int.eq_ofNat_of_zero_le z2n;rw[Int.toNat_natCast]at hw1 hlt1 hw2 hlt2;have P1:=hO1.o;have P2:=hO2.o;rw[List.drop_of_length_le (by rw[HXL.o];exact Nat.le_refl _),List.append_nil]at P1;rw[List.drop_of_length_le (by rw[HYL.o];exact Nat.le_refl _),List.append_nil]at P2;have hBw:B≤wr.heap.size:=Nat.le_trans HB.o hK.o.size;have A1:=hid (jM B _ o1 m1 (by omega) (by omega) wr P1 hBw);obtain ⟨HP2,HP1,L1,L2,W1,W2⟩:=cK P2 P1 hlt1 hlt2 hw1 hw2;have hm2:m2≤3000000000:=by omega
    have ho2l:o2.length≤100000:=by omega
    have u6:=hid hBw;clear P1 P2 hlt1 hlt2 hw1 hw2 z1n z2n ju1 ju2 ol1 ol2 hBw hO1 hO2 hi1 hi2;go_wp2_with fail
    refine A1.o.mono ?_;rintro e w3 ⟨u3,rfl,ho3,hno3,hk3⟩;have T1:=hid (z14 B u3 _ L1.o w3 ho3);rw[W1.o]at T1;have P2':=HP2.o.kp hk3 (fun g h h'=>HS2.o g h' h);have hs3:Apt u3 (.slice b2 i k2):=HS2.o.newOr hno3 (fun g hg=>(HP2.o.at hg).2);have A2:=hid (jM B _ o2 m2 hm2 ho2l w3 P2' (Nat.le_trans u6.o hk3.size));obtain ⟨HNO3,HK3,HS3,HO3,HPP2⟩:=bI hno3 hk3 hs3 ho3 P2';clear ho3 hno3 hk3 hs3 P2';go_wp2_with fail
    refine T1.o.mono ?_;rintro e w' ⟨t1,rfl,hot1,hat1,rfl⟩;obtain ⟨HT1,HA1⟩:=aB hot1 hat1;clear hot1 hat1;go_wp2_with fail
    refine A2.o.mono ?_;rintro e w4 ⟨u4,rfl,ho4,hno4,hk4⟩;have T2:=hid (z14 B u4 _ L2.o w4 ho4);rw[W2.o]at T2;obtain ⟨HNO4,HK4⟩:=aB hno4 hk4;clear ho4 hno4 hk4;go_wp2_with fail
    refine T2.o.mono ?_;rintro e w' ⟨t2,rfl,hot2,hat2,rfl⟩;obtain ⟨HT2,HA2⟩:=aB hot2 hat2;clear hot2 hat2;go_wp2;go_ret2
    have zz:=hZ.o;have z3:=HK3.o.size;have zw:=hK.o.size;have zz2:w.heap.size≤w2.heap.size:=by omega
    refine⟨t1,t2,rfl,HT1.o.kp HK4.o (fun g h h'=>HS3.o g (HA1.o g h) h'),HT2.o,?_,?_,?_,?_⟩
    · intro g h h'
      exact(HS3.o.symm.newOr HNO4.o (fun g hg=>(HO3.o.at hg).2)) g (HA2.o g h') (HA1.o g h)
    · intro g h
      rcases HNO3.o g (HA1.o g h) with h'|h'
      · exact HN1.o g h'
      · right;omega
    · intro g h
      rcases HNO4.o g (HA2.o g h) with h'|h'
      · exact HN2.o g h'
      · right;omega
    · refine(hK.o.trans (HK3.o) (fun g hg h=>?_)).trans HK4.o (fun g hg h=>?_)
      · rcases HN1.o g h with h'|h'
        · exact Or.inl h'
        · omega
      · rcases HN2.o g h with h'|h'
        · exact Or.inr h'
        · omega
