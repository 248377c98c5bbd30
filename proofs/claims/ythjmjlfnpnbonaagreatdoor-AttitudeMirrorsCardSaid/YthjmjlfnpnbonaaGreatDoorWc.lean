/- words.Multiply: walks. -/
import Derived.Test.YthjmjlfnpnbonaaGreatDoorMz4q
set_option maxRecDepth 100000
set_option maxHeartbeats 20000000
open Go.Lib (hid)
namespace Go.Proofs.YthjmjlfnpnbonaaGreatDoor
open Go.RowKit Go.Gb
theorem madeCells_u64 (n:Nat):(madeCells #[Value.int .u64 0] n).toList=cls .u64 (List.replicate n 0):=by
 apply List.ext_getElem
 · simp[size_madeCells,cls]
 · intro i h1 h2
   simp[madeCells,cls,Nat.mod_one]
theorem Multiply_some (b1 o1 c1 b2 o2 c2:Nat)(xs ys:List Nat)(hx:∀ x∈xs,x<BB)(hy:∀ y∈ys,y<BB)(hlx:xs.length≤100000)(hly:ys.length≤100000)(w:World)
 (hb1:b1<w.heap.size) (hb2:b2<w.heap.size)
 (hcx:∀ i,i<xs.length→w.cell? ⟨b1,o1+i,none⟩=some (.int .u64 ((xs.getD i 0:Nat):Int)))
 (hcy:∀ i,i<ys.length→w.cell? ⟨b2,o2+i,none⟩=some (.int .u64 ((ys.getD i 0:Nat):Int))) :
 Calls Tryz.prog 219 #[.slice (some ⟨b1,o1,none⟩) xs.length c1,.slice (some ⟨b2,o2,none⟩) ys.length c2] w fun e w' =>
  ∃ v,e=.returned v∧Own .u64 110 w.heap.size w' v (digs (wval xs*wval ys))∧Below w.heap.size w w':=by
 obtain⟨i0,hi,hz0,hz1,hz2⟩:=info_parts Tryz.info110
 have HX:=hid hx
 have HY:=hid hy
 have HCX:=hid hcx
 have HCY:=hid hcy
 clear hx hy hcx hcy
 go_enter Tryz.func219,Tryz.ntmps219
 go_wp2_with (at_make;refine wpList_make_full _ rfl _ _ 174 rfl w.heap.size 110 i0 (.int .u64 0) 1 Tryz.underlying174 hi hz0 hz1 _ _ _ _ (xs.length+ys.length) rfl rfl (by omega) (by omega) ?b2 ?b3 (Nat.le_refl _) ?_)
 case b2=>rw[hz2];omega
 case b3=>unfold maxLen;omega
 intro w0 hown0 hgrow0
 have hB0:Blk w0 w.heap.size (List.replicate (xs.length+ys.length) 0):=Blk.of_made hown0 (madeCells_u64 _)
 have hnx0:Below w.heap.size w w0:=(Below.refl _ _).grown hgrow0 (Nat.le_refl _) (fun k h=>by cases h)
 have HB0:=hid hB0
 have HN0:=hid hnx0
 clear hown0 hgrow0 hB0 hnx0
 go_wp2
 go_loopw [19] (fun ii wr=>∃ (i:Nat) (os:List Nat),i≤xs.length∧ii=.int .i64 i∧Hid (MulInv xs ys os i)∧Hid (Blk wr w.heap.size os)∧Hid (Below w.heap.size w wr)) (fun ii _=>xs.length-(intOf ii).toNat)
 case atStart=>exact⟨0,_,Nat.zero_le _,rfl,MulInv.start xs ys,HB0,HN0⟩
 case round =>
  obtain⟨i,os,hi',rfl,hm,hb,hn⟩:=hrel
  by_cases hlt:i<xs.length
  · have hcell:=(hn.out.cell (p:=⟨b1,o1+i,none⟩) hb1).trans (HCX.out i hlt)
    have hne:¬ xs.length+ys.length=i:=by omega
    obtain⟨xi,hxi⟩:∃ xi,xi=xs.getD i 0:=⟨_,rfl⟩
    rw[← hxi]at hcell
    have HXI:=hid hxi
    clear hxi
    have hrow:=hm.out.row
    have HR:=hid hrow
    clear hrow
    go_wp2
    obtain⟨wo,rfl⟩:∃ wo:World,wo=wr:=⟨_,rfl⟩
    go_loopw [33] (fun kk wr=>∃ (k:Nat) (os:List Nat),k≤ys.length∧kk=.int .i64 k∧Hid (RowInv xs ys os i k)∧Hid (Blk wr w.heap.size os)∧Hid (Below w.heap.size w wr)) (fun kk _=>ys.length-(intOf kk).toNat)
    case atStart=>exact⟨0,os,Nat.zero_le _,rfl,HR,hb,hn⟩
    case round =>
        clear HR hb hn hm hcell
        obtain⟨k,os,hk',rfl,hm,hb,hn⟩:=hrel
        by_cases hkt:k<ys.length
        · have hcell:=(hn.out.cell (p:=⟨b2,o2+k,none⟩) hb2).trans (HCY.out k hkt)
          obtain⟨hm1,hbd⟩:=hm.out.step hlt hkt HX.out HY.out
          have hbd':=Nat.le_trans hbd (MM_le (r:=18) (by omega))
          have hlo:=hm.out.1
          have hco:=hb.out.cell (i:=i+k) (by rw[hlo];omega)
          have hfo:=hb.out.free (i+k)
          have hset:=hb.out.set (i+k) (os.getD (i+k) 0+xs.getD i 0*ys.getD k 0)
          have hbel:=hn.out.setCell (p:=⟨w.heap.size,i+k,none⟩) (Nat.le_refl _) (.int .u64 ((os.getD (i+k) 0+xs.getD i 0*ys.getD k 0:Nat):Int))
          rw[← HXI.out]at hm1 hbd' hset hbel
          have HM1:=hid hm1
          have HS:=hid hset
          have HBL:=hid hbel
          clear hm1 hbd hlo hset hbel
          generalize ys.getD k 0=yk at *
          generalize os.getD (i+k) 0=ok at *
          obtain⟨p,hp⟩:∃ p:Nat,p=xi*yk:=⟨_,rfl⟩
          rw[← hp]at hbd'
          have hpi:(xi:Int)*(yk:Int)=(p:Int):=by rw[hp];exact(Int.natCast_mul _ _).symm
          have HP:=hid hp
          clear hp
          go_wp2
          go_roundw
          case rel=>exact⟨k+1,os.set (i+k) (ok+p),by omega,by go_num,by rw[HP.out];exact HM1,by have h:=HS.out;rw[← HP.out,Int.natCast_add]at h;exact h,by have h:=HBL.out;rw[← HP.out,Int.natCast_add]at h;exact h⟩
          case measure=>simp[intOf];omega
        · have hk2:k=ys.length:=by omega
          rw[hk2]at hm
          clear hk2
          have hol:=hm.out.1
          by_cases h17:i%18=17
          · have hb17:((i:Int)%18==17)=true:=by simp;omega
            have hpre:(os.take (i-17)).length=i-17:=by rw[List.length_take];omega
            have hca:=carryOn_any w.heap.size (xs.length+ys.length-(i-17)) (os.take (i-17)) (os.drop (i-17)) [] (fun j hj=>by
             have h3:=hm.out.2.2.1 (i-17+j) (by simp at hj;omega)
             have h4:MM (i%18+1)≤MM 18:=by unfold MM;omega
             have h5:(os.drop (i-17)).getD j 0=os.getD (i-17+j) 0:=by simp[List.getD]
             rw[h5];omega) (by simp;omega) wr (by rw[List.append_nil,List.take_append_drop];exact hb.out)
            rw[hpre,List.length_drop,hol]at hca
            have HCA:=hid hca
            have hge:17≤i:=by omega
            have hne17:¬ xs.length+ys.length=i-17:=by omega
            have H17:=hid h17
            clear hca h17
            go_wp2_with fail
            rw[show((i:Int)-18+1).toNat=i-17 from by omega]
            refine HCA.out.mono ?_
            rintro e w1 ⟨rfl,⟨zs,q,hz1',hz2',hz3',hz4'⟩,hgr⟩
            have hnx:=hid (hn.out.grown hgr (by have:=hn.out.size;omega) (fun k h=>by cases h;exact Nat.le_refl _))
            have hmx:=hid (hm.out.carried hlt H17.out HX.out HY.out (by rw[hz1',hol]) hz2' (by rw[hz1'];exact hz3'))
            rw[List.append_nil]at hz4'
            have hbx:=hid hz4'
            clear hz1' hz2' hz3' hz4' hgr
            go_wp2
            go_roundw
            case rel=>exact⟨i+1,_,by omega,by go_num,hmx,hbx,hnx⟩
            case measure=>simp[intOf];omega
          · have hb17:((i:Int)%18==17)=false:=by simp;omega
            have HNX:=hid (hm.out.next hlt h17)
            clear h17
            go_wp2
            go_roundw
            case rel=>exact⟨i+1,os,by omega,by go_num,HNX,hb,hn⟩
            case measure=>simp[intOf];omega
  · have hi2:i=xs.length:=by omega
    rw[hi2]at hm
    clear hi2
    have hol:=hm.out.1
    have hca:=carryOn_any w.heap.size (xs.length+ys.length) [] os [] (fun j hj=>by
        have h3:=hm.out.2.2.1 j hj
        have h4:MM (xs.length%18)≤MM 18:=by unfold MM;omega
        omega) (by omega) wr (by rw[List.append_nil];exact hb.out)
    rw[hol]at hca
    have HCA:=hid hca
    clear hca
    go_wp2_with fail
    refine HCA.out.mono ?_
    rintro e w1 ⟨rfl,⟨zs,q,hz1',hz2',hz3',hz4'⟩,hgr⟩
    have hnx:=hid (hn.out.grown hgr (by have:=hn.out.size;omega) (fun k h=>by cases h;exact Nat.le_refl _))
    have hval:=hm.out.done HX.out HY.out (by rw[hol];exact hz3')
    rw[List.append_nil]at hz4'
    have hown:=Blk.own (show Blk w1 w.heap.size zs from hz4') (Nat.le_refl _) (by unfold maxLen;omega) zs.length (Nat.le_refl _)
    rw[List.take_of_length_le (Nat.le_refl _)]at hown
    have htr:=Trim_own 110 w.heap.size _ zs hz2' w1 hown
    rw[hz1',hval]at htr
    have HTR:=hid htr
    clear hz1' hz2' hz3' hz4' hgr hval hown htr
    go_wp2_with fail
    refine HTR.out.mono ?_
    rintro e w2 ⟨v',rfl,hown,rfl⟩
    go_wp2
    go_ret
    exact⟨v',rfl,hown,hnx.out⟩
theorem Multiply_nil1 (a1 a2:Option Addr)(c1 m c2:Nat)(hly:m≤100000)(w:World) :
 Calls Tryz.prog 219 #[.slice a1 0 c1,.slice a2 m c2] w fun e w' =>
  ∃ v,e=.returned v∧Own .u64 110 w.heap.size w' v (digs 0)∧Below w.heap.size w w':=by
 obtain⟨i0,hi,hz0,hz1,hz2⟩:=info_parts Tryz.info110
 go_enter Tryz.func219,Tryz.ntmps219
 go_wp2_with (at_make;refine wpList_make_full _ rfl _ _ 174 rfl w.heap.size 110 i0 (.int .u64 0) 1 Tryz.underlying174 hi hz0 hz1 _ _ _ _ m rfl rfl (by omega) (by omega) ?b2 ?b3 (Nat.le_refl _) ?_)
 case b2=>rw[hz2];omega
 case b3=>unfold maxLen;omega
 intro w0 hown0 hgrow0
 have hB0:Blk w0 w.heap.size (List.replicate m 0):=Blk.of_made hown0 (madeCells_u64 _)
 have hnx0:Below w.heap.size w w0:=(Below.refl _ _).grown hgrow0 (Nat.le_refl _) (fun k h=>by cases h)
 have hca:=carryOn_any w.heap.size m [] (List.replicate m 0) [] (fun j hj=>by
  have:(List.replicate m 0).getD j 0=0:=by rw[getD_of_lt hj];simp
  rw[this];omega) (by simp;omega) w0 (by rw[List.append_nil];exact hB0)
 rw[List.length_replicate]at hca
 have HCA:=hid hca
 have HN0:=hid hnx0
 clear hown0 hgrow0 hB0 hnx0 hca
 go_wp2
 refine wp_loop_rounds 1 ?_
 rw[rounds_succ]
 go_wp2_with fail
 refine HCA.out.mono ?_
 rintro e w1 ⟨rfl,⟨zs,q,hz1',hz2',hz3',hz4'⟩,hgr⟩
 have hnx:=hid (HN0.out.grown hgr HN0.out.size (fun k h=>by cases h;exact Nat.le_refl _))
 have hval:wval zs=0:=by
  have:=wval_zeros [] m
  simp only[List.nil_append]at this
  rw[this]at hz3'
  have h0:wval []=0:=rfl
  omega
 rw[List.append_nil]at hz4'
 have hown:=Blk.own (show Blk w1 w.heap.size zs from hz4') (Nat.le_refl _) (by unfold maxLen;omega) zs.length (Nat.le_refl _)
 rw[List.take_of_length_le (Nat.le_refl _)]at hown
 have htr:=Trim_own 110 w.heap.size _ zs hz2' w1 hown
 rw[hz1',hval]at htr
 have HTR:=hid htr
 clear hz1' hz2' hz3' hz4' hgr hval hown htr
 go_wp2_with fail
 refine HTR.out.mono ?_
 rintro e w2 ⟨v',rfl,hown,rfl⟩
 go_wp2
 go_ret
 exact⟨v',rfl,hown,hnx.out⟩
theorem Multiply_nil2 (b1 o1 c1 c2:Nat)(a2:Option Addr)(xs ys:List Nat)(hy0:ys=[])(hx:∀ x∈xs,x<BB)(hy:∀ y∈ys,y<BB)(hlx:xs.length≤100000)(hly:ys.length≤100000)(w:World)
 (hb1:b1<w.heap.size)
 (hcx:∀ i,i<xs.length→w.cell? ⟨b1,o1+i,none⟩=some (.int .u64 ((xs.getD i 0:Nat):Int))) :
 Calls Tryz.prog 219 #[.slice (some ⟨b1,o1,none⟩) xs.length c1,.slice a2 ys.length c2] w fun e w' =>
  ∃ v,e=.returned v∧Own .u64 110 w.heap.size w' v (digs (wval xs*wval ys))∧Below w.heap.size w w':=by
 obtain⟨i0,hi,hz0,hz1,hz2⟩:=info_parts Tryz.info110
 have HX:=hid hx
 have HY:=hid hy
 have HCX:=hid hcx
 have hyl0:ys.length≤0:=by rw[hy0];exact Nat.le_refl _
 clear hx hy hcx hy0
 go_enter Tryz.func219,Tryz.ntmps219
 go_wp2_with (at_make;refine wpList_make_full _ rfl _ _ 174 rfl w.heap.size 110 i0 (.int .u64 0) 1 Tryz.underlying174 hi hz0 hz1 _ _ _ _ (xs.length+ys.length) rfl rfl (by omega) (by omega) ?b2 ?b3 (Nat.le_refl _) ?_)
 case b2=>rw[hz2];omega
 case b3=>unfold maxLen;omega
 intro w0 hown0 hgrow0
 have hB0:Blk w0 w.heap.size (List.replicate (xs.length+ys.length) 0):=Blk.of_made hown0 (madeCells_u64 _)
 have hnx0:Below w.heap.size w w0:=(Below.refl _ _).grown hgrow0 (Nat.le_refl _) (fun k h=>by cases h)
 have HB0:=hid hB0
 have HN0:=hid hnx0
 clear hown0 hgrow0 hB0 hnx0
 go_wp2
 go_loopw [19] (fun ii wr=>∃ (i:Nat) (os:List Nat),i≤xs.length∧ii=.int .i64 i∧Hid (MulInv xs ys os i)∧Hid (Blk wr w.heap.size os)∧Hid (Below w.heap.size w wr)) (fun ii _=>xs.length-(intOf ii).toNat)
 case atStart=>exact⟨0,_,Nat.zero_le _,rfl,MulInv.start xs ys,HB0,HN0⟩
 case round =>
  obtain⟨i,os,hi',rfl,hm,hb,hn⟩:=hrel
  by_cases hlt:i<xs.length
  · have hcell:=(hn.out.cell (p:=⟨b1,o1+i,none⟩) hb1).trans (HCX.out i hlt)
    have hne:¬ xs.length+ys.length=i:=by omega
    obtain⟨xi,hxi⟩:∃ xi,xi=xs.getD i 0:=⟨_,rfl⟩
    rw[← hxi]at hcell
    have HXI:=hid hxi
    clear hxi
    have hrow:=hm.out.row
    have HR:=hid hrow
    clear hrow
    go_wp2
    obtain⟨wo,rfl⟩:∃ wo:World,wo=wr:=⟨_,rfl⟩
    go_loopw [33] (fun kk wr=>∃ (k:Nat) (os:List Nat),k≤ys.length∧kk=.int .i64 k∧Hid (RowInv xs ys os i k)∧Hid (Blk wr w.heap.size os)∧Hid (Below w.heap.size w wr)) (fun kk _=>ys.length-(intOf kk).toNat)
    case atStart=>exact⟨0,os,Nat.zero_le _,rfl,HR,hb,hn⟩
    case round =>
        clear HR hb hn hm hcell
        obtain⟨k,os,hk',rfl,hm,hb,hn⟩:=hrel
        by_cases hkt:k<ys.length
        · exact absurd hkt (by omega)
        · have hk2:k=ys.length:=by omega
          rw[hk2]at hm
          clear hk2
          have hol:=hm.out.1
          by_cases h17:i%18=17
          · have hb17:((i:Int)%18==17)=true:=by simp;omega
            have hpre:(os.take (i-17)).length=i-17:=by rw[List.length_take];omega
            have hca:=carryOn_any w.heap.size (xs.length+ys.length-(i-17)) (os.take (i-17)) (os.drop (i-17)) [] (fun j hj=>by
             have h3:=hm.out.2.2.1 (i-17+j) (by simp at hj;omega)
             have h4:MM (i%18+1)≤MM 18:=by unfold MM;omega
             have h5:(os.drop (i-17)).getD j 0=os.getD (i-17+j) 0:=by simp[List.getD]
             rw[h5];omega) (by simp;omega) wr (by rw[List.append_nil,List.take_append_drop];exact hb.out)
            rw[hpre,List.length_drop,hol]at hca
            have HCA:=hid hca
            have hge:17≤i:=by omega
            have hne17:¬ xs.length+ys.length=i-17:=by omega
            have H17:=hid h17
            clear hca h17
            go_wp2_with fail
            rw[show((i:Int)-18+1).toNat=i-17 from by omega]
            refine HCA.out.mono ?_
            rintro e w1 ⟨rfl,⟨zs,q,hz1',hz2',hz3',hz4'⟩,hgr⟩
            have hnx:=hid (hn.out.grown hgr (by have:=hn.out.size;omega) (fun k h=>by cases h;exact Nat.le_refl _))
            have hmx:=hid (hm.out.carried hlt H17.out HX.out HY.out (by rw[hz1',hol]) hz2' (by rw[hz1'];exact hz3'))
            rw[List.append_nil]at hz4'
            have hbx:=hid hz4'
            clear hz1' hz2' hz3' hz4' hgr
            go_wp2
            go_roundw
            case rel=>exact⟨i+1,_,by omega,by go_num,hmx,hbx,hnx⟩
            case measure=>simp[intOf];omega
          · have hb17:((i:Int)%18==17)=false:=by simp;omega
            have HNX:=hid (hm.out.next hlt h17)
            clear h17
            go_wp2
            go_roundw
            case rel=>exact⟨i+1,os,by omega,by go_num,HNX,hb,hn⟩
            case measure=>simp[intOf];omega
  · have hi2:i=xs.length:=by omega
    rw[hi2]at hm
    clear hi2
    have hol:=hm.out.1
    have hca:=carryOn_any w.heap.size (xs.length+ys.length) [] os [] (fun j hj=>by
        have h3:=hm.out.2.2.1 j hj
        have h4:MM (xs.length%18)≤MM 18:=by unfold MM;omega
        omega) (by omega) wr (by rw[List.append_nil];exact hb.out)
    rw[hol]at hca
    have HCA:=hid hca
    clear hca
    go_wp2_with fail
    refine HCA.out.mono ?_
    rintro e w1 ⟨rfl,⟨zs,q,hz1',hz2',hz3',hz4'⟩,hgr⟩
    have hnx:=hid (hn.out.grown hgr (by have:=hn.out.size;omega) (fun k h=>by cases h;exact Nat.le_refl _))
    have hval:=hm.out.done HX.out HY.out (by rw[hol];exact hz3')
    rw[List.append_nil]at hz4'
    have hown:=Blk.own (show Blk w1 w.heap.size zs from hz4') (Nat.le_refl _) (by unfold maxLen;omega) zs.length (Nat.le_refl _)
    rw[List.take_of_length_le (Nat.le_refl _)]at hown
    have htr:=Trim_own 110 w.heap.size _ zs hz2' w1 hown
    rw[hz1',hval]at htr
    have HTR:=hid htr
    clear hz1' hz2' hz3' hz4' hgr hval hown htr
    go_wp2_with fail
    refine HTR.out.mono ?_
    rintro e w2 ⟨v',rfl,hown,rfl⟩
    go_wp2
    go_ret
    exact⟨v',rfl,hown,hnx.out⟩
theorem Multiply_any (v1 v2:Value)(a b:Nat)(hla:(digs a).length≤100000)(hlb:(digs b).length≤100000)(w:World)(h1:Rd .u64 w v1 (digs a))(h2:Rd .u64 w v2 (digs b)) :
 Calls Tryz.prog 219 #[v1,v2] w fun e w'=>∃ v,e=.returned v∧Own .u64 110 w.heap.size w' v (digs (a*b))∧Below w.heap.size w w':=by
 rcases h1 with⟨rfl,h1⟩|⟨b1,o1,c1,rfl,_,_,k1,r1⟩
 · have ha:a=0:=by have:=wval_digs a;rw[h1]at this;exact this.symm
   rw[ha,Nat.zero_mul]
   rcases h2 with⟨rfl,h2⟩|⟨b2,o2,c2,rfl,_,_,k2,r2⟩
   · exact Multiply_nil1 none none 0 0 0 (by omega) w
   · exact Multiply_nil1 none _ 0 _ c2 hlb w
 · rcases h2 with⟨rfl,h2⟩|⟨b2,o2,c2,rfl,_,_,k2,r2⟩
   · have hb:b=0:=by have:=wval_digs b;rw[h2]at this;exact this.symm
     have:=Multiply_nil2 b1 o1 c1 0 none (digs a) [] rfl (digs_lt a) (by simp) hla (by simp) w k1 r1
     rw[wval_digs]at this
     rw[hb]
     exact this
   · have:=Multiply_some b1 o1 c1 b2 o2 c2 (digs a) (digs b) (digs_lt a) (digs_lt b) hla hlb w k1 k2 r1 r2
     rw[wval_digs,wval_digs]at this
     exact this
end Go.Proofs.YthjmjlfnpnbonaaGreatDoor
