/- texts -/
import Derived.Test.YtoaeaiiabelhkaaGreatDoorMz4q
open Go.Proofs.Tryz
set_option maxRecDepth 100000
set_option maxHeartbeats 20000000
open Go.Lib (hid)
namespace Go.Proofs.YtoaeaiiabelhkaaGreatDoor
open Go.RowKit Go.Gb
theorem dO (n:Nat):(madeCells #[Value.int .u64 0] n).toList=cls .u64 (List.replicate n 0):=by
 apply List.ext_getElem
 · simp[size_madeCells,cls]
 · intro i h1 h2
   simp[madeCells,cls,Nat.mod_one]
theorem sM (b1 o1 c1 b2 o2 c2:Nat)(xs ys:List Nat)(hx:∀ x∈xs,x<BB)(hy:∀ y∈ys,y<BB)(hlx:xs.length≤100000)(hly:ys.length≤100000)(w:World)
 (hb1:b1<w.heap.size) (hb2:b2<w.heap.size)
 (hcx:∀ i,i<xs.length→w.cell? ⟨b1,o1+i,none⟩=some (.int .u64 ((xs.getD i 0:Nat):Int)))
 (hcy:∀ i,i<ys.length→w.cell? ⟨b2,o2+i,none⟩=some (.int .u64 ((ys.getD i 0:Nat):Int))) :
 Calls Tryz.prog 226 #[.slice (some ⟨b1,o1,none⟩) xs.length c1,.slice (some ⟨b2,o2,none⟩) ys.length c2] w fun e w' =>
  ∃ v,e=.returned v∧Gb.Own .u64 112 w.heap.size w' v (ae (ai xs*ai ys))∧Below w.heap.size w w':=by
 obtain⟨i0,hi,hz0,hz1,hz2⟩:=info_parts Tryz.info112;obtain ⟨HX,HY,HCX,HCY⟩:=aN hx hy hcx hcy;clear hx hy hcx hcy;go_enter func226,ntmps226
 go_wp2_with (at_make;refine wpList_make_full _ rfl _ _ 167 rfl w.heap.size 112 i0 (.int .u64 0) 1 underlying167 hi hz0 hz1 _ _ _ _ (xs.length+ys.length) rfl rfl (by omega) (by omega) ?b2 ?b3 (Nat.le_refl _) ?_)
 case b2=>rw[hz2];omega
 case b3=>unfold maxLen;omega
 intro w0 hown0 hgrow0;have hB0:Blk w0 w.heap.size (List.replicate (xs.length+ys.length) 0):=Blk.of_made hown0 (dO _);have hnx0:Below w.heap.size w w0:=(Below.refl _ _).grown hgrow0 (Nat.le_refl _) (fun k h=>by cases h);have u6:=hid hB0;have HN0:=hid hnx0;clear hown0 hgrow0 hB0 hnx0;go_wp2;go_loopw [19] (fun ii wr=>∃ (i:Nat) (os:List Nat),i≤xs.length∧ii=.int .i64 i∧Hid (jl xs ys os i)∧Hid (Blk wr w.heap.size os)∧Hid (Below w.heap.size w wr)) (fun ii _=>xs.length-(intOf ii).toNat)
 case atStart=>exact⟨0,_,Nat.zero_le _,rfl,jl.start xs ys,u6,HN0⟩
 case round =>
  obtain⟨i,os,hi',rfl,hm,hb,hn⟩:=hrel;by_cases hlt:i<xs.length
  · have hcell:=(hn.o.cell (p:=⟨b1,o1+i,none⟩) hb1).trans (HCX.o i hlt)
    have hne:¬ xs.length+ys.length=i:=by omega
    obtain⟨xi,hxi⟩:∃ xi,xi=xs.getD i 0:=⟨_,rfl⟩;rw[← hxi]at hcell;have HXI:=hid hxi;clear hxi;have hrow:=hm.o.row;have HR:=hid hrow;clear hrow;go_wp2;obtain⟨wo,rfl⟩:∃ wo:World,wo=wr:=⟨_,rfl⟩;go_loopw [33] (fun kk wr=>∃ (k:Nat) (os:List Nat),k≤ys.length∧kk=.int .i64 k∧Hid (jY xs ys os i k)∧Hid (Blk wr w.heap.size os)∧Hid (Below w.heap.size w wr)) (fun kk _=>ys.length-(intOf kk).toNat)
    case atStart=>exact⟨0,os,Nat.zero_le _,rfl,HR,hb,hn⟩
    case round =>
        clear HR hb hn hm hcell;obtain⟨k,os,hk',rfl,hm,hb,hn⟩:=hrel;by_cases hkt:k<ys.length
        · have hcell:=(hn.o.cell (p:=⟨b2,o2+k,none⟩) hb2).trans (HCY.o k hkt)
          obtain⟨hm1,hbd⟩:=hm.o.step hlt hkt HX.o HY.o;have hbd':=Nat.le_trans hbd (z6M (r:=18) (by omega));have hlo:=hm.o.1;have hco:=hb.o.cell (i:=i+k) (by rw[hlo];omega);have hfo:=hb.o.free (i+k);have hset:=hb.o.set (i+k) (os.getD (i+k) 0+xs.getD i 0*ys.getD k 0);have hbel:=hn.o.setCell (p:=⟨w.heap.size,i+k,none⟩) (Nat.le_refl _) (.int .u64 ((os.getD (i+k) 0+xs.getD i 0*ys.getD k 0:Nat):Int));rw[← HXI.o]at hm1 hbd' hset hbel;obtain ⟨HM1,HS,HBL⟩:=ak hm1 hset hbel;clear hm1 hbd hlo hset hbel;generalize ys.getD k 0=yk at *;generalize os.getD (i+k) 0=ok at *;obtain⟨p,hp⟩:∃ p:Nat,p=xi*yk:=⟨_,rfl⟩;rw[← hp]at hbd';have hpi:(xi:Int)*(yk:Int)=(p:Int):=by rw[hp];exact(Int.natCast_mul _ _).symm
          have HP:=hid hp;clear hp;go_wp2;go_roundw
          case rel=>exact⟨k+1,os.set (i+k) (ok+p),by omega,by go_num,by rw[HP.o];exact HM1,by have h:=HS.o;rw[← HP.o,Int.natCast_add]at h;exact h,by have h:=HBL.o;rw[← HP.o,Int.natCast_add]at h;exact h⟩
          case measure=>simp[intOf];omega
        · have hk2:k=ys.length:=by omega
          rw[hk2]at hm;clear hk2;have hol:=hm.o.1;by_cases h17:i%18=17
          · have hb17:((i:Int)%18==17)=true:=by simp;omega
            have hpre:(os.take (i-17)).length=i-17:=by rw[List.length_take];omega
            have hca:=gX w.heap.size (xs.length+ys.length-(i-17)) (os.take (i-17)) (os.drop (i-17)) [] (fun j hj=>by
             have h3:=hm.o.2.2.1 (i-17+j) (by simp at hj;omega);have h4:MM (i%18+1)≤MM 18:=by unfold MM;omega
             have h5:(os.drop (i-17)).getD j 0=os.getD (i-17+j) 0:=by simp[List.getD]
             rw[h5];omega) (by simp;omega) wr (by rw[List.append_nil,List.take_append_drop];exact hb.o)
            rw[hpre,List.length_drop,hol]at hca;have HCA:=hid hca;have hge:17≤i:=by omega
            have hne17:¬ xs.length+ys.length=i-17:=by omega
            have H17:=hid h17;clear hca h17;go_wp2_with fail
            rw[show((i:Int)-18+1).toNat=i-17 from by omega];refine HCA.o.mono ?_;rintro e w1 ⟨rfl,⟨zs,q,hz1',hz2',hz3',hz4'⟩,hgr⟩;have hnx:=hid (hn.o.grown hgr (by have:=hn.o.size;omega) (fun k h=>by cases h;exact Nat.le_refl _));have hmx:=hid (hm.o.carried hlt H17.o HX.o HY.o (by rw[hz1',hol]) hz2' (by rw[hz1'];exact hz3'));rw[List.append_nil]at hz4';have hbx:=hid hz4';clear hz1' hz2' hz3' hz4' hgr;go_wp2;go_roundw
            case rel=>exact⟨i+1,_,by omega,by go_num,hmx,hbx,hnx⟩
            case measure=>simp[intOf];omega
          · have hb17:((i:Int)%18==17)=false:=by simp;omega
            have HNX:=hid (hm.o.next hlt h17);clear h17;go_wp2;go_roundw
            case rel=>exact⟨i+1,os,by omega,by go_num,HNX,hb,hn⟩
            case measure=>simp[intOf];omega
  · have hi2:i=xs.length:=by omega
    rw[hi2]at hm;clear hi2;have hol:=hm.o.1
    have hca:=gX w.heap.size (xs.length+ys.length) [] os [] (fun j hj=>by
        have h3:=hm.o.2.2.1 j hj;have h4:MM (xs.length%18)≤MM 18:=by unfold MM;omega
        omega) (by omega) wr (by rw[List.append_nil];exact hb.o)
    rw[hol]at hca;have HCA:=hid hca;clear hca;go_wp2_with fail
    refine HCA.o.mono ?_;rintro e w1 ⟨rfl,⟨zs,q,hz1',hz2',hz3',hz4'⟩,hgr⟩;have hnx:=hid (hn.o.grown hgr (by have:=hn.o.size;omega) (fun k h=>by cases h;exact Nat.le_refl _));have hval:=hm.o.done HX.o HY.o (by rw[hol];exact hz3');rw[List.append_nil]at hz4';have hown:=Blk.own (show Blk w1 w.heap.size zs from hz4') (Nat.le_refl _) (by unfold maxLen;omega) zs.length (Nat.le_refl _);rw[List.take_of_length_le (Nat.le_refl _)]at hown;have htr:=fC 112 w.heap.size _ zs hz2' w1 hown;rw[hz1',hval]at htr;have HTR:=hid htr;clear hz1' hz2' hz3' hz4' hgr hval hown htr;go_wp2_with fail
    refine HTR.o.mono ?_;rintro e w2 ⟨v',rfl,hown,rfl⟩;go_wp2;go_ret
    exact⟨v',rfl,hown,hnx.o⟩
theorem lF (a1 a2:Option Addr)(c1 m c2:Nat)(hly:m≤100000)(w:World) :
 Calls Tryz.prog 226 #[.slice a1 0 c1,.slice a2 m c2] w fun e w' =>
  ∃ v,e=.returned v∧Gb.Own .u64 112 w.heap.size w' v (ae 0)∧Below w.heap.size w w':=by
 obtain⟨i0,hi,hz0,hz1,hz2⟩:=info_parts Tryz.info112;go_enter func226,ntmps226
 go_wp2_with (at_make;refine wpList_make_full _ rfl _ _ 167 rfl w.heap.size 112 i0 (.int .u64 0) 1 underlying167 hi hz0 hz1 _ _ _ _ m rfl rfl (by omega) (by omega) ?b2 ?b3 (Nat.le_refl _) ?_)
 case b2=>rw[hz2];omega
 case b3=>unfold maxLen;omega
 intro w0 hown0 hgrow0;have hB0:Blk w0 w.heap.size (List.replicate m 0):=Blk.of_made hown0 (dO _);have hnx0:Below w.heap.size w w0:=(Below.refl _ _).grown hgrow0 (Nat.le_refl _) (fun k h=>by cases h)
 have hca:=gX w.heap.size m [] (List.replicate m 0) [] (fun j hj=>by
  have:(List.replicate m 0).getD j 0=0:=by rw[bU hj];simp
  rw[this];omega) (by simp;omega) w0 (by rw[List.append_nil];exact hB0)
 rw[List.length_replicate]at hca;have HCA:=hid hca;have HN0:=hid hnx0;clear hown0 hgrow0 hB0 hnx0 hca;go_wp2;refine wp_loop_rounds 1 ?_;rw[rounds_succ];go_wp2_with fail
 refine HCA.o.mono ?_;rintro e w1 ⟨rfl,⟨zs,q,hz1',hz2',hz3',hz4'⟩,hgr⟩;have hnx:=hid (HN0.o.grown hgr HN0.o.size (fun k h=>by cases h;exact Nat.le_refl _))
 have hval:ai zs=0:=by
  have:=eQ [] m;simp only[List.nil_append]at this;rw[this]at hz3';have h0:ai []=0:=rfl;omega
 rw[List.append_nil]at hz4';have hown:=Blk.own (show Blk w1 w.heap.size zs from hz4') (Nat.le_refl _) (by unfold maxLen;omega) zs.length (Nat.le_refl _);rw[List.take_of_length_le (Nat.le_refl _)]at hown;have htr:=fC 112 w.heap.size _ zs hz2' w1 hown;rw[hz1',hval]at htr;have HTR:=hid htr;clear hz1' hz2' hz3' hz4' hgr hval hown htr;go_wp2_with fail
 refine HTR.o.mono ?_;rintro e w2 ⟨v',rfl,hown,rfl⟩;go_wp2;go_ret
 exact⟨v',rfl,hown,hnx.o⟩
theorem sN (b1 o1 c1 c2:Nat)(a2:Option Addr)(xs ys:List Nat)(hy0:ys=[])(hx:∀ x∈xs,x<BB)(hy:∀ y∈ys,y<BB)(hlx:xs.length≤100000)(hly:ys.length≤100000)(w:World)
 (hb1:b1<w.heap.size)
 (hcx:∀ i,i<xs.length→w.cell? ⟨b1,o1+i,none⟩=some (.int .u64 ((xs.getD i 0:Nat):Int))) :
 Calls Tryz.prog 226 #[.slice (some ⟨b1,o1,none⟩) xs.length c1,.slice a2 ys.length c2] w fun e w' =>
  ∃ v,e=.returned v∧Gb.Own .u64 112 w.heap.size w' v (ae (ai xs*ai ys))∧Below w.heap.size w w':=by
 obtain⟨i0,hi,hz0,hz1,hz2⟩:=info_parts Tryz.info112;obtain ⟨HX,HY,HCX⟩:=ak hx hy hcx;have hyl0:ys.length≤0:=by rw[hy0];exact Nat.le_refl _
 clear hx hy hcx hy0;go_enter func226,ntmps226
 go_wp2_with (at_make;refine wpList_make_full _ rfl _ _ 167 rfl w.heap.size 112 i0 (.int .u64 0) 1 underlying167 hi hz0 hz1 _ _ _ _ (xs.length+ys.length) rfl rfl (by omega) (by omega) ?b2 ?b3 (Nat.le_refl _) ?_)
 case b2=>rw[hz2];omega
 case b3=>unfold maxLen;omega
 intro w0 hown0 hgrow0;have hB0:Blk w0 w.heap.size (List.replicate (xs.length+ys.length) 0):=Blk.of_made hown0 (dO _);have hnx0:Below w.heap.size w w0:=(Below.refl _ _).grown hgrow0 (Nat.le_refl _) (fun k h=>by cases h);have u6:=hid hB0;have HN0:=hid hnx0;clear hown0 hgrow0 hB0 hnx0;go_wp2;go_loopw [19] (fun ii wr=>∃ (i:Nat) (os:List Nat),i≤xs.length∧ii=.int .i64 i∧Hid (jl xs ys os i)∧Hid (Blk wr w.heap.size os)∧Hid (Below w.heap.size w wr)) (fun ii _=>xs.length-(intOf ii).toNat)
 case atStart=>exact⟨0,_,Nat.zero_le _,rfl,jl.start xs ys,u6,HN0⟩
 case round =>
  obtain⟨i,os,hi',rfl,hm,hb,hn⟩:=hrel;by_cases hlt:i<xs.length
  · have hcell:=(hn.o.cell (p:=⟨b1,o1+i,none⟩) hb1).trans (HCX.o i hlt)
    have hne:¬ xs.length+ys.length=i:=by omega
    obtain⟨xi,hxi⟩:∃ xi,xi=xs.getD i 0:=⟨_,rfl⟩;rw[← hxi]at hcell;have HXI:=hid hxi;clear hxi;have hrow:=hm.o.row;have HR:=hid hrow;clear hrow;go_wp2;obtain⟨wo,rfl⟩:∃ wo:World,wo=wr:=⟨_,rfl⟩;go_loopw [33] (fun kk wr=>∃ (k:Nat) (os:List Nat),k≤ys.length∧kk=.int .i64 k∧Hid (jY xs ys os i k)∧Hid (Blk wr w.heap.size os)∧Hid (Below w.heap.size w wr)) (fun kk _=>ys.length-(intOf kk).toNat)
    case atStart=>exact⟨0,os,Nat.zero_le _,rfl,HR,hb,hn⟩
    case round =>
        clear HR hb hn hm hcell;obtain⟨k,os,hk',rfl,hm,hb,hn⟩:=hrel;by_cases hkt:k<ys.length
        · exact absurd hkt (by omega)
        · have hk2:k=ys.length:=by omega
          rw[hk2]at hm;clear hk2;have hol:=hm.o.1;by_cases h17:i%18=17
          · have hb17:((i:Int)%18==17)=true:=by simp;omega
            have hpre:(os.take (i-17)).length=i-17:=by rw[List.length_take];omega
            have hca:=gX w.heap.size (xs.length+ys.length-(i-17)) (os.take (i-17)) (os.drop (i-17)) [] (fun j hj=>by
             have h3:=hm.o.2.2.1 (i-17+j) (by simp at hj;omega);have h4:MM (i%18+1)≤MM 18:=by unfold MM;omega
             have h5:(os.drop (i-17)).getD j 0=os.getD (i-17+j) 0:=by simp[List.getD]
             rw[h5];omega) (by simp;omega) wr (by rw[List.append_nil,List.take_append_drop];exact hb.o)
            rw[hpre,List.length_drop,hol]at hca;have HCA:=hid hca;have hge:17≤i:=by omega
            have hne17:¬ xs.length+ys.length=i-17:=by omega
            have H17:=hid h17;clear hca h17;go_wp2_with fail
            rw[show((i:Int)-18+1).toNat=i-17 from by omega];refine HCA.o.mono ?_;rintro e w1 ⟨rfl,⟨zs,q,hz1',hz2',hz3',hz4'⟩,hgr⟩;have hnx:=hid (hn.o.grown hgr (by have:=hn.o.size;omega) (fun k h=>by cases h;exact Nat.le_refl _));have hmx:=hid (hm.o.carried hlt H17.o HX.o HY.o (by rw[hz1',hol]) hz2' (by rw[hz1'];exact hz3'));rw[List.append_nil]at hz4';have hbx:=hid hz4';clear hz1' hz2' hz3' hz4' hgr;go_wp2;go_roundw
            case rel=>exact⟨i+1,_,by omega,by go_num,hmx,hbx,hnx⟩
            case measure=>simp[intOf];omega
          · have hb17:((i:Int)%18==17)=false:=by simp;omega
            have HNX:=hid (hm.o.next hlt h17);clear h17;go_wp2;go_roundw
            case rel=>exact⟨i+1,os,by omega,by go_num,HNX,hb,hn⟩
            case measure=>simp[intOf];omega
  · have hi2:i=xs.length:=by omega
    rw[hi2]at hm;clear hi2;have hol:=hm.o.1
    have hca:=gX w.heap.size (xs.length+ys.length) [] os [] (fun j hj=>by
        have h3:=hm.o.2.2.1 j hj;have h4:MM (xs.length%18)≤MM 18:=by unfold MM;omega
        omega) (by omega) wr (by rw[List.append_nil];exact hb.o)
    rw[hol]at hca;have HCA:=hid hca;clear hca;go_wp2_with fail
    refine HCA.o.mono ?_;rintro e w1 ⟨rfl,⟨zs,q,hz1',hz2',hz3',hz4'⟩,hgr⟩;have hnx:=hid (hn.o.grown hgr (by have:=hn.o.size;omega) (fun k h=>by cases h;exact Nat.le_refl _));have hval:=hm.o.done HX.o HY.o (by rw[hol];exact hz3');rw[List.append_nil]at hz4';have hown:=Blk.own (show Blk w1 w.heap.size zs from hz4') (Nat.le_refl _) (by unfold maxLen;omega) zs.length (Nat.le_refl _);rw[List.take_of_length_le (Nat.le_refl _)]at hown;have htr:=fC 112 w.heap.size _ zs hz2' w1 hown;rw[hz1',hval]at htr;have HTR:=hid htr;clear hz1' hz2' hz3' hz4' hgr hval hown htr;go_wp2_with fail
    refine HTR.o.mono ?_;rintro e w2 ⟨v',rfl,hown,rfl⟩;go_wp2;go_ret
    exact⟨v',rfl,hown,hnx.o⟩
theorem iC (v1 v2:Value)(a b:Nat)(hla:(ae a).length≤100000)(hlb:(ae b).length≤100000)(w:World)(h1:Rd .u64 w v1 (ae a))(h2:Rd .u64 w v2 (ae b)) :
 Calls Tryz.prog 226 #[v1,v2] w fun e w'=>∃ v,e=.returned v∧Gb.Own .u64 112 w.heap.size w' v (ae (a*b))∧Below w.heap.size w w':=by
 rcases h1 with⟨rfl,h1⟩|⟨b1,o1,c1,rfl,_,_,k1,r1⟩
 · have ha:a=0:=by have:=az a;rw[h1]at this;exact this.symm
   rw[ha,Nat.zero_mul];rcases h2 with⟨rfl,h2⟩|⟨b2,o2,c2,rfl,_,_,k2,r2⟩
   · exact lF none none 0 0 0 (by omega) w
   · exact lF none _ 0 _ c2 hlb w
 · rcases h2 with⟨rfl,h2⟩|⟨b2,o2,c2,rfl,_,_,k2,r2⟩
   · have hb:b=0:=by have:=az b;rw[h2]at this;exact this.symm
     have:=sN b1 o1 c1 0 none (ae a) [] rfl (aR a) (by simp) hla (by simp) w k1 r1;rw[az]at this;rw[hb];exact this
   · have:=sM b1 o1 c1 b2 o2 c2 (ae a) (ae b) (aR a) (aR b) hla hlb w k1 k2 r1 r2
     rw[az,az]at this;exact this
open Go.Lib (hid)
def gZ (l:List UInt8) (os:List Nat) (e:Nat):Prop:=(∀ x∈os,x<BB)∧ai os+BB^os.length*aI (l.take e)=aI l
theorem gZ.start (l:List UInt8):gZ l [] l.length:=⟨by simp,by rw[List.take_of_length_le (Nat.le_refl _)];simp[ai]⟩
theorem gZ.step {l:List UInt8}{os:List Nat}{e a:Nat}(h:gZ l os e)(hl:l.all isD=true)(he:e≤l.length)(hea:a≤e)(h9:e-a=9∨(a=0∧e-a≤9)) :
 gZ l (os++[aI ((l.drop a).take (e-a))]) a∧aI ((l.drop a).take (e-a))<BB:=by
 obtain⟨h1,h2⟩:=h
 have e1:l.take e=l.take a++(l.drop a).take (e-a):=by
  rw[show l.take e=l.take (a+(e-a)) by rw[show a+(e-a)=e by omega],List.take_add]
 have hlen:((l.drop a).take (e-a)).length=e-a:=by rw[List.length_take,List.length_drop];omega
 have uu:((l.drop a).take (e-a)).all isD=true:=by
  rw[List.all_eq_true]at hl ⊢;exact fun c hc=>hl c (List.mem_of_mem_drop (List.mem_of_mem_take hc))
 have hlt:=gT _ uu;rw[hlen]at hlt;have hp:10^(e-a)≤10^9:=Nat.pow_le_pow_right (by decide) (by omega);have hB:=aG;refine⟨⟨?_,?_⟩,by omega⟩
 · intro x hx
   rcases List.mem_append.1 hx with hx|hx
   · exact h1 x hx
   · have:=List.mem_singleton.1 hx;omega
 · rw[e1,gU,hlen]at h2
   have key:aI ((l.drop a).take (e-a))+BB*aI (l.take a)=aI (l.take a)*10^(e-a)+aI ((l.drop a).take (e-a)):=by
    rcases h9 with h9|⟨h9,h10⟩
    · rw[h9,hB,Nat.mul_comm 1000000000];omega
    · subst h9
      have h0:aI (l.take 0)=0:=rfl;rw[h0];simp
   rw[dI,List.length_append,List.length_singleton,Nat.pow_succ,Nat.mul_assoc,Nat.add_assoc,← Nat.mul_add,key];exact h2
theorem gZ.done {l:List UInt8}{os:List Nat}(h:gZ l os 0):(∀ x∈os,x<BB)∧ai os=aI l:=by
 obtain⟨h1,h2⟩:=h;have h0:aI (l.take 0)=0:=rfl;rw[h0,Nat.mul_zero,Nat.add_zero]at h2;exact⟨h1,h2⟩
theorem fM (s:ByteArray)(a e:Nat):(s.extract a e).data.toList=(s.data.toList.drop a).take (e-a):=by
 rw[ByteArray.data_extract,Array.toList_extract,List.extract_eq_take_drop]
theorem cells_one (w:World)(v:Value)(T:TypeId):∀ j u,[v][j]? = some u→(w.alloc (.cells #[v] T)).cell? ((⟨w.heap.size,0,none⟩:Addr).add j)=some u:=by
 intro j u hj
 match j,hj with
 | 0,hj=>simp at hj;subst hj;simp[Addr.add]
theorem gD (s:ByteArray)(h:s.data.toList.all isD=true)(hl:s.size≤100000)(w:World) :
 Calls Tryz.prog 179 #[.string s] w fun e w'=>∃ v,e=.returned v∧Gb.Own .u64 112 w.heap.size w' v (ae (aI s.data.toList))∧Below w.heap.size w w':=by
 obtain⟨i0,hi,hz0,hz1,hz2⟩:=info_parts Tryz.info112;have H:=hid h;clear h;go_enter func179,ntmps179
 go_wp2_with (at_make;refine wpList_make_own _ rfl _ _ 167 rfl w.heap.size 112 i0 (.int .u64 0) 1 underlying167 hi hz0 hz1 _ _ _ ((s.size+8) / 9) rfl rfl (by omega) ?b2 ?b3 (Nat.le_refl _) ?_)
 case b2=>rw[hz2];omega
 case b3=>unfold maxLen;omega
 intro w0 hown0 hgrow0;have HN0:=hid ((Below.refl w.heap.size w).grown hgrow0 (Nat.le_refl _) (fun k h=>by cases h));have HO0:=hid hown0;clear hown0 hgrow0;go_wp2;go_loopw [3,4] (fun v ee wr=>∃ (z:Int) (os:List Nat),-9≤z∧z≤s.size∧ee=.int .i64 z∧os.length+z.toNat≤s.size∧Hid (wr.ownsRow w.heap.size 112 1 v os.length (cls .u64 os))∧Hid (gZ s.data.toList os z.toNat)∧Hid (Below w.heap.size w wr)) (fun _ ee _=>(intOf ee).toNat)
 case atStart=>exact⟨(s.size:Int),[],by omega,by omega,rfl,by simp,HO0,by have:=gZ.start s.data.toList;rw[aF]at this;exact this,HN0⟩
 case round =>
  obtain⟨z,os,hz9,hzs,rfl,hlen,ho,hr,hn⟩:=hrel;by_cases hz:0<z
  · obtain⟨a,ha⟩:∃ a:Nat,a=(z-9).toNat:=⟨_,rfl⟩
    obtain⟨hst,hbd⟩:=hr.o.step (a:=a) H.o (by rw[aF];omega) (by omega) (by omega);rw[← fM]at hst hbd
    have hex:(s.extract a z.toNat).data.toList.all isD=true:=by
        rw[fM];have:=H.o;rw[List.all_eq_true]at this ⊢;exact fun c hc=>this c (List.mem_of_mem_drop (List.mem_of_mem_take hc))
    have hval:=z0l (s.extract a z.toNat) hex (by rw[ByteArray.size_extract];omega);obtain ⟨HV,HST,HA⟩:=ak hval hst ha;clear hst hex hval ha;go_wp2_with fail
    rw[show(max 0 (z-9)).toNat=a from by rw[HA.o];omega];refine(HV.o _).mono ?_;rintro e w1 ⟨rfl,rfl⟩;generalize aI (s.extract a z.toNat).data.toList=d at *;have HD:=hid hbd;clear hbd HV;go_wp2_with (at_builtin;refine wpList_append_own _ rfl _ _ 167 rfl w.heap.size 112 i0 (.int .u64 0) 1 8 underlying167 hi hz0 hz1 hz2 rfl (by decide) _ _ _ rfl (ho.o.alloc _) ⟨wr.heap.size,0,none⟩ 1 1 [.int .u64 (d:Int)] rfl rfl (cells_one _ _ _) (by intro u hu;simp at hu;subst hu;rfl) (by unfold maxLen;omega) (by omega) (by have:=hn.o.size;simp;omega) ?_)
    intro v' w1 hown' hgrow _;have HO:=hid hown';have HN:=hid ((hn.o.alloc hn.o.size _).grown hgrow (by have:=hn.o.size;simp;omega) (fun k hk=>(ho.o.lt k hk).1));clear hown' hgrow;go_wp2;go_roundw
    case rel=>exact⟨z-9,os++[d],by omega,by omega,rfl,by simp;omega,by have:=HO.o;rw[cB,List.length_append];exact this,by rw[show(z-9).toNat=a from HA.o.symm];exact HST,HN⟩
    case measure=>simp[intOf];omega
  · have hz0':z.toNat=0:=by omega
    have hr':=hr.o;rw[hz0']at hr';obtain⟨hB,hv⟩:=hr'.done;have htr:=fC 112 w.heap.size _ os hB wr ho.o;rw[hv]at htr;have HTR:=hid htr;clear hr' hB hv htr hz0';go_wp2_with fail
    refine HTR.o.mono ?_;rintro e w2 ⟨v',rfl,hown,rfl⟩;go_wp2;go_ret
    exact⟨v',rfl,hown,hn.o⟩
end Go.Proofs.YtoaeaiiabelhkaaGreatDoor
open Go.Lib (hid)
namespace Go.Proofs.YtoaeaiiabelhkaaGreatDoor
open Go.RowKit Go.Gb
theorem Tryz.info5:(Tryz.prog.info? 5).map (fun i=>(i.zero,i.size,i.bytes))=some (some (.int .u8 0),1,1):=by kernel_rfl
theorem ownsRow_below {w w':World}{B:Nat}{e:TypeId}{v:Value}{n:Nat}{xs:List Value}(h:w.ownsRow B e 1 v n xs)(hb:Below w.heap.size w w'):w'.ownsRow B e 1 v n xs:=by
 obtain⟨h1,h2⟩:=h;refine⟨h1,?_⟩;rcases h2 with h2|⟨g,cap,cur,hv,hg,hh,r⟩
 · exact Or.inl h2
 · exact Or.inr ⟨g,cap,cur,hv,hg,by rw[hb.block g (Array.getElem?_eq_some_iff.1 hh).1];exact hh,r⟩
def Byt (T:TypeId) (w:World) (g:Nat) (ds:List UInt8):Prop:=w.heap[g]? = some (.cells (Lib.byteCells ds).toArray T (0,0))
theorem Byt.cell {T:TypeId}{w:World}{g:Nat}{ds:List UInt8}(h:Byt T w g ds){i:Nat}(hi:i<ds.length):w.cell? ⟨g,i,none⟩=some (.int .u8 ((ds.getD i 0).toNat:Int)):=by
 unfold Byt at h
 simp only[World.cell?,h];simp[Lib.byteCells,List.getD,hi]
theorem Byt.free {T:TypeId}{w:World}{g:Nat}{ds:List UInt8}(h:Byt T w g ds)(i:Nat):w.frozen? ⟨g,i,none⟩=false:=by
 unfold Byt at h
 simp only[World.frozen?,h];simp
theorem Byt.set {T:TypeId}{w:World}{g:Nat}{ds:List UInt8}(h:Byt T w g ds)(i:Nat)(v:UInt8):Byt T (w.setCell ⟨g,i,none⟩ (.int .u8 (v.toNat:Int))) g (ds.set i v):=by
 unfold Byt at *
 simp only[World.setCell,Array.getElem?_modify,h];simp[Lib.byteCells,List.map_set]
def qC (m:Nat) (ds:List UInt8) (k:Nat):Prop:=ds.length=9∧∀ j,k≤j→j<9→ds.getD j 0=UInt8.ofNat (48+m / 10^(8-j)%10)
theorem qC.step {m:Nat}{ds:List UInt8}{k:Nat}(h:qC m ds (k+1))(hk:k<9):qC m (ds.set k (UInt8.ofNat (48+m / 10^(8-k)%10))) k:=by
 obtain⟨h1,h2⟩:=h;refine⟨by simp[h1],fun j hj hj9=>?_⟩;by_cases e:k=j
 · subst e;simp[List.getD,h1,hk]
 · have:=h2 j (by omega) hj9
   simpa [List.getD,List.getElem?_set,e] using this
theorem qC.done {m:Nat}{ds:List UInt8}(h:qC m ds 0):ds=pad9 m:=by
 obtain⟨h1,h2⟩:=h;apply List.ext_getElem
 · rw[h1,kr]
 · intro j hj1 hj2
   have:=h2 j (by omega) (by omega);have e:ds.getD j 0=ds[j]:=by simp[List.getD,hj1]
   rw[← e,this];simp[pad9]
theorem pg (B n m:Nat)(hm:m<1000000000)(sv:Value)(xs:List Value)(w:World)(hown:w.ownsRow B 5 1 sv n xs)(hBw:B≤w.heap.size)(hlim:n≤1000000) :
 Calls Tryz.prog 172 #[sv,.int .u64 (m:Int)] w fun e w'=>∃ v',e=.returned v'∧w'.ownsRow B 5 1 v' (n+9) (xs++Lib.byteCells (pad9 m))∧Below B w w':=by
 obtain⟨i0,hi,hz0,hz1,hz2⟩:=info_parts Tryz.info5;have HO:=hid hown;clear hown
 have h0:Byt 213 (w.alloc (.cells #[.int .u8 0,.int .u8 0,.int .u8 0,.int .u8 0,.int .u8 0,.int .u8 0,.int .u8 0,.int .u8 0,.int .u8 0] 213)) w.heap.size (List.replicate 9 0):=by
  unfold Byt;rw[heap_alloc_new];rfl
 have H0:=hid h0;clear h0;go_enter func172,ntmps172
 go_wp2;go_loopw [1,6] (fun ww ii wr=>∃ (z:Int) (q:Nat) (ds:List UInt8),-1≤z∧z≤8∧ii=.int .i64 z∧ww=.int .u64 (q:Int)∧q<1000000000∧Hid (q=m / 10^(9-(z+1).toNat))∧Hid (qC m ds (z+1).toNat)∧Hid (Byt 213 wr w.heap.size ds)∧Hid (Below w.heap.size w wr)) (fun _ ii _=>(intOf ii+1).toNat)
 case atStart=>exact⟨8,m,_,by omega,by omega,rfl,rfl,hm,by show m=m / 10^0;simp,by refine⟨by simp,fun j h1 h2=>?_⟩;have:((8:Int)+1).toNat=9:=rfl;omega,H0,(Below.refl _ _).alloc (Nat.le_refl _) _⟩
 case round =>
  obtain⟨z,q,ds,hz1',hz8,rfl,rfl,hq,hqe,hp,hb,hn⟩:=hrel;by_cases hz:0≤z
  · obtain⟨j,rfl⟩:=Int.eq_ofNat_of_zero_le hz
    have hp':=hp.o;have hqe':=hqe.o;rw[show((j:Int)+1).toNat=j+1 by omega]at hp' hqe';have hst:=hp'.step (by omega);have hq8:m / 10^(8-j)=q:=by rw[hqe',show 9-(j+1)=8-j by omega]
    rw[hq8]at hst;have hcell:=hb.o.cell (i:=j) (by rw[hp'.1];omega);have hfree:=hb.o.free j;have hset:=hb.o.set j (UInt8.ofNat (48+q%10));rw[fO (Nat.mod_lt _ (by decide))]at hset;have hbel:=hn.o.setCell (p:=⟨w.heap.size,j,none⟩) (Nat.le_refl _) (.int .u8 ((48+q%10:Nat):Int));obtain ⟨HST,HSET,HBEL⟩:=ak hst hset hbel;have HQ:=hid (show q / 10=m / 10^(9-j) by rw[show 9-j=(8-j)+1 by omega,Nat.pow_succ,← Nat.div_div_eq_div_mul,hq8]);clear hp' hqe' hst hq8 hset hbel;generalize (ds.getD j 0).toNat=old at *;have hw1:IntKind.u8.wrap ((q:Int)%10)=(q:Int)%10:=by rw[IntKind.wrap_u8];omega
    go_wp2;go_roundw
    case rel=>exact⟨(j:Int)-1,q / 10,ds.set j (UInt8.ofNat (48+q%10)),by omega,by omega,rfl,by congr 1,by omega,by rw[show((j:Int)-1+1).toNat=j by omega];exact HQ,by rw[show((j:Int)-1+1).toNat=j by omega];exact HST,HSET,HBEL⟩
    case measure=>simp[intOf]
  · have hz0':(z+1).toNat=0:=by omega
    have hd:=hp.o;rw[hz0']at hd;have hds:=hd.done
    have hcl:∀ j u,(Lib.byteCells (pad9 m))[j]? = some u→wr.cell? ((⟨w.heap.size,0,none⟩:Addr).add j)=some u:=by
        intro j u hj
        have hj9:j<9:=by
         have:=(List.getElem?_eq_some_iff.1 hj).1;simpa [Lib.byteCells,pad9] using this
        rw[Lib.add_plain,Nat.zero_add,hb.o.cell (by rw[hd.1];omega),← hj,hds];simp[Lib.byteCells,List.getD,pad9,hj9]
    have HCL:=hid hcl;have hown:=ownsRow_below HO.o hn.o;clear hd hds hcl hz0';go_wp2_with (at_builtin;refine wpList_append_own _ rfl _ _ 152 rfl B 5 i0 (.int .u8 0) 1 1 underlying152 hi hz0 hz1 hz2 rfl (by decide) _ _ _ rfl hown ⟨w.heap.size,0,none⟩ 9 9 (Lib.byteCells (pad9 m)) rfl (by simp[Lib.byteCells,pad9]) HCL.o ?h1 (by unfold maxLen;omega) (by omega) (by have:=hn.o.size;omega) ?_)
    case h1=>intro u hu;obtain⟨c,_,rfl⟩:=List.mem_map.1 hu;rfl
    intro v' w1 hown' hgrow _;go_wp2;go_ret
    exact⟨v',rfl,hown',(hn.o.mono hBw).grown hgrow (by have:=hn.o.size;omega) (fun k hk=>(hown.lt k hk).1)⟩
def wT (xs:List Nat) (bs:List UInt8) (i:Nat):Prop:=bs=Lib.decDigits (ai (xs.drop i))∧0<ai (xs.drop i)
theorem wT.step {xs:List Nat}{bs:List UInt8}{i:Nat}(h:wT xs bs (i+1))(hi:i<xs.length)(hx:∀ x∈xs,x<BB):wT xs (bs++pad9 (xs.getD i 0)) i:=by
 obtain⟨h1,h2⟩:=h;have hw:=hx _ (bf hi);unfold wT
 rw[fJ hi,z3z h2 hw,← h1];refine⟨rfl,?_⟩;have:0<BB*ai (xs.drop (i+1)):=Nat.mul_pos bN h2;omega
theorem pX:∀ (k:Nat) {t:Nat},1≤k→t<10^k→Lib.nDigits t≤k
 | 0,_,h,_=>by omega
 | k+1,t,_,h=>by
   by_cases h10:t<10
   · rw[Lib.nDigits_small h10];omega
   · rw[Lib.nDigits_big h10]
     rw[Nat.pow_succ]at h
     have hk:1≤k:=by
      rcases Nat.eq_zero_or_pos k with h0|h0
      · subst h0;simp at h;omega
      · exact h0
     have:=pX k hk (show t / 10<10^k by omega);omega
theorem wS {xs:List Nat}{t:Nat}(hne:0<xs.length)(ht:t=xs.getD (xs.length-1) 0)(h0:t≠0):wT xs (Lib.decDigits t) (xs.length-1):=by
 have e:ai (xs.drop (xs.length-1))=t:=by
  rw[fJ (by omega),← ht,List.drop_of_length_le (by omega)];simp[ai]
 unfold wT
 rw[e];exact⟨rfl,by omega⟩
theorem z04 (b o c:Nat)(xs:List Nat)(hx:∀ x∈xs,x<BB)(hne:0<xs.length)(hlast:xs.getD (xs.length-1) 0≠0)(hl:xs.length≤100000)(w:World)(hb:b<w.heap.size)(htab:Tb w)
 (hcx:∀ i,i<xs.length→w.cell? ⟨b,o+i,none⟩=some (.int .u64 ((xs.getD i 0:Nat):Int))) :
 CR 151 #[.slice (some ⟨b,o,none⟩) xs.length c] w (.string ⟨(Lib.decDigits (ai xs)).toArray⟩):=by
 obtain⟨i0,hi,hz0,hz1,hz2⟩:=info_parts Tryz.info5;obtain ⟨HT,HX,HC⟩:=ak htab hx hcx
 have hmk:∀ W,(Instr.makeSlice 152 (.int .i64 0) (.int .i64 ((xs.length:Int)*9))).run Tryz.prog W=.ok (.slice (some ⟨W.heap.size,0,none⟩) 0 (xs.length*9)) (W.alloc (.cells (madeCells #[.int .u8 0] (xs.length*9)) 5)):=fun W=>by
  have h:=run_make (P:=Tryz.prog) W 152 5 i0 (.int .u8 0) underlying152 hi hz0 .i64 .i64 0 ((xs.length:Int)*9) (by omega) (by omega) (by rw[hz2];omega) (by omega);rw[h,hz1,show((xs.length:Int)*9).toNat=xs.length*9 by omega,Nat.mul_one];rfl
 have hcell:=HC.o (xs.length-1) (by omega);obtain⟨t,ht⟩:∃ t,t=xs.getD (xs.length-1) 0:=⟨_,rfl⟩;have htB:t<BB:=by rw[ht];exact hx _ (bf (by omega))
 have HB:=aG;have hn0:((xs.length:Int)==0)=false:=beq_eq_false_iff_ne.2 (by omega);have hw9:IntKind.i64.wrap ((xs.length:Int)*9)=(xs.length:Int)*9:=IntWalk.i64_in _ (by omega);have hi0:(0:Int)≤(xs.length:Int)-1:=by omega
 have hi1:((xs.length:Int)-1).toNat=xs.length-1:=by omega
 have HTU:=hid (show t<18446744073709551616 by omega);have HMD:=hid (World.ownsRow_made (base:=w.heap.size) (e:=5) (size:=1) w (madeCells #[.int .u8 0] (xs.length*9)) (xs.length*9) (Nat.le_refl _) (by unfold maxLen;omega) (by rw[size_madeCells,Nat.mul_one]));have HTA:=hid (htab.on ((Below.refl w.heap.size w).alloc (Nat.le_refl _) (.cells (madeCells #[.int .u8 0] (xs.length*9)) 5)));rw[← ht]at hcell hlast;have HTT:=hid ht;clear htab hx hcx ht;go_enter func151,ntmps151
 go_wp2_with fail
 go_region_with (go_at_call 171;go_must (refine(pE w.heap.size 0 t HTU.o _ [] _ (by exact HMD.o) (by simp) (by omega) (by exact HTA.o)).mono ?_;rintro e w1 ⟨v1,rfl,hown1,hb1⟩))
 all_goals
  have hb0:=hid (((Below.refl w.heap.size w).alloc (Nat.le_refl _) (.cells (madeCells #[.int .u8 0] (xs.length*9)) 5)).drew.trans hb1);have hT1:=hid (HT.o.on hb0.o);have hO1:=hid hown1;clear hown1 hb1 hmk hw9 hcell;go_wp2;go_loopw [4,5] (fun v ii wr=>∃ (z:Int) (bs:List UInt8),-1≤z∧z+1<xs.length∧ii=.int .i64 z∧bs.length+9*(z+1)≤9+9*xs.length∧Hid (wT xs bs (z+1).toNat)∧Hid (wr.ownsRow w.heap.size 5 1 v bs.length (Lib.byteCells bs))∧Hid (Tb wr)∧Hid (Below w.heap.size w wr)) (fun _ ii _=>(intOf ii+1).toNat)
  case atStart=>exact⟨(xs.length:Int)-2,Lib.decDigits t,by omega,by omega,by congr 1;omega,by have:=pX 9 (by omega) (show t<10^9 by omega);rw[Lib.decDigits_length];omega,by rw[show((xs.length:Int)-2+1).toNat=xs.length-1 by omega];exact wS hne HTT.o hlast,by have:=hO1.o;simp only[Nat.zero_add,List.nil_append]at this;exact this,hT1,hb0⟩
  case round =>
   clear hO1 hT1 hb0;obtain⟨z,bs,hz1',hz8,rfl,hlen,hw,ho,hT,hn⟩:=hrel;by_cases hz:0≤z
   · obtain⟨j,rfl⟩:=Int.eq_ofNat_of_zero_le hz
     have hw':=hw.o;rw[show((j:Int)+1).toNat=j+1 by omega]at hw';have hst:=hw'.step (by omega) HX.o;have hxb:=HX.o _ (bf (show j<xs.length by omega));have hcell:=(hn.o.cell (p:=⟨b,o+j,none⟩) hb).trans (HC.o j (by omega));have haw:=pg w.heap.size bs.length (xs.getD j 0) (by omega) _ _ wr ho.o hn.o.size (by omega);obtain ⟨HAW,HST⟩:=aB haw hst;clear hw' hst haw;generalize xs.getD j 0=x at *;go_wp2_with fail
     refine HAW.o.mono ?_;rintro e w1 ⟨v1,rfl,hown1,hb1⟩;obtain ⟨hO1,hN1⟩:=aB hown1 (hn.o.trans hb1);have hT1:=hid (HT.o.on hN1.o);clear hown1 hb1;go_wp2;go_roundw
     case rel=>exact⟨(j:Int)-1,bs++pad9 x,by omega,by omega,rfl,by rw[List.length_append,kr];omega,by rw[show((j:Int)-1+1).toNat=j by omega];exact HST,by have:=hO1.o;rw[List.length_append,kr,Lib.byteCells_append];exact this,hT1,hN1⟩
     case measure=>simp[intOf]
   · have hz0':(z+1).toNat=0:=by omega
     have hw':=hw.o;rw[hz0']at hw';obtain⟨hw1,hw2⟩:=hw';rw[List.drop_zero]at hw1;obtain⟨ol,oc⟩:=ho.o;rcases oc with⟨_,hnil⟩|⟨g,cap,cur,rfl,hg,hh,hn',hc',hs',ht'⟩
     · have hbn:=iV (ai xs)
       rw[← hw1]at hbn;exact absurd (List.length_eq_zero_iff.1 hnil) hbn
     · have hcv:(convert 152 9 (.slice (some ⟨g,0,none⟩) bs.length cap)).run Tryz.prog wr=.ok (.string ⟨bs.toArray⟩) wr :=
        run_convert_bytes_back (P:=Tryz.prog) wr 152 9 5 ⟨g,0,none⟩ cap bs underlying152 underlying5 underlying9 (fun j hj=>by
         have:=ho.o.cells (g:=g) rfl j (.int .u8 ((bs[j]).toNat:Int)) (by simp[Lib.byteCells,hj])
         exact this)
       have HW1:=hid hw1;clear hw1 hw2 hz0' ol hg hh hn' hc' hs' ht';go_wp2;go_ret
       exact⟨z4Z HW1.o,hn.o⟩
theorem qA (a:Option Addr)(c:Nat)(w:World) :
 Calls Tryz.prog 151 #[.slice a 0 c] w fun e w'=>e=.returned (.string ⟨(Lib.decDigits 0).toArray⟩)∧w=w':=by
 go_enter func151,ntmps151
 go_wp2;go_ret
 refine⟨?_,rfl⟩;rw[Lib.decDigits_one (by decide)];rfl
theorem iX (v:Value)(n:Nat)(hl:(ae n).length≤100000)(w:World)(h:Rd .u64 w v (ae n))(htab:Tb w) :
 CR 151 #[v] w (.string ⟨(Lib.decDigits n).toArray⟩):=by
 by_cases h0:n=0
 · subst h0
   rw[aQ]at h;rcases h with⟨rfl,_⟩|⟨b,o,c,rfl,_⟩
   · exact(qA none 0 w).mono fun e w' ⟨h1,h2⟩=>⟨h1,h2▸Below.refl _ _⟩
   · exact(qA _ c w).mono fun e w' ⟨h1,h2⟩=>⟨h1,h2▸Below.refl _ _⟩
 · have hne:ae n≠[]:=by rw[bP h0];simp
   have hp:0<(ae n).length:=List.length_pos_iff.2 hne;rcases h with⟨_,h⟩|⟨b,o,c,rfl,_,_,hb,hc⟩
   · exact absurd h hne
   · have hlast:(ae n).getD ((ae n).length-1) 0≠0:=by
        have:=l9 n hne;rw[List.getLast_eq_getElem]at this;rwa [bU (by omega)]
     have:=z04 b o c (ae n) (aR n) hp hlast hl w hb htab hc;rw[az]at this;exact this
