/- Texts of this proof, one behind the other. -/
import Derived.Test.YtmigpoiajkihhaaGreatDoorMz35q
set_option maxRecDepth 100000
set_option maxHeartbeats 20000000
open Go.Lib (hid)
namespace Go.Proofs.YtmigpoiajkihhaaGreatDoor
open Go.RowKit Go.Gb
theorem val_intT {k:IntKind}{a b:Int}(h:a=b):Value.int k a=.int k b:=by rw[h]
theorem dig_cell {d:Nat}(h:d<10):Value.int .u8 (48+(d:Int))=.int .u8 ((UInt8.ofNat (48+d)).toNat:Int):=by
 rw[dig_toNat h];exact val_intT (by omega)
theorem row_snoc {W:World}{B:Nat}{v:Value}{bs:List UInt8}{d:Nat}(hd:d<10)(h:W.ownsRow B 5 1 v (bs.length+1) (Lib.byteCells bs++[.int .u8 (48+(d:Int))])):W.ownsRow B 5 1 v (bs++[UInt8.ofNat (48+d)]).length (Lib.byteCells (bs++[UInt8.ofNat (48+d)])):=by
 rw[dig_cell hd]at h
 rw[List.length_append,Lib.byteCells_append]
 exact h
theorem RTo_some (b o c:Nat)(xs:List Nat)(hx:∀ x∈xs,x<BB)(hp:0<xs.length)(hlast:xs.getD (xs.length-1) 0≠0)(hl:xs.length≤10000)(w:World)(hb:b<w.heap.size)
 (hcx:∀ i,i<xs.length→w.cell? ⟨b,o+i,none⟩=some (.int .u32 ((xs.getD i 0:Nat):Int))) :
 CR 65 #[.slice (some ⟨b,o,none⟩) xs.length c] w (.string ⟨(Lib.decDigits (wval xs)).toArray⟩):=by
 obtain⟨i0,hi,hz0,hz1,hz2⟩:=info_parts Tryz.info5
 have HX:=hid hx
 have HCX:=hid hcx
 have HLA:=hid hlast
 have HO0:=hid (World.ownsRow_nil w w.heap.size 5 1)
 have d0:((xs.length:Int)==0)=false:=beq_eq_false_iff_ne.2 (by omega)
 have HP:=hid hp
 clear hx hcx hlast hp
 go_enter Tryz.func65,Tryz.ntmps65
 go_wp2
 go_loopw [3,4] (fun v ii wr=>∃ (i:Nat) (bs:List UInt8),i≤xs.length∧ii=.int .i64 i∧Hid (TOut xs bs i)∧Hid (wr.ownsRow w.heap.size 5 1 v bs.length (Lib.byteCells bs))∧Hid (Below w.heap.size w wr)) (fun _ ii _=>xs.length-(intOf ii).toNat)
 case atStart=>exact⟨0,[],Nat.zero_le _,rfl,TOut.zero HP.out,HO0,Below.refl _ _⟩
 case round =>
  obtain⟨i,bs,hi',rfl,hT,ho,hn⟩:=hrel
  by_cases hlt:i<xs.length
  · have hcell:=(hn.out.cell (p:=⟨b,o+i,none⟩) hb).trans (HCX.out i hlt)
    have HS:=hid (TIn.start hT.out hlt)
    have hq0:=(TIn.start hT.out hlt).lt hlt HX.out
    clear hT
    generalize xs.getD i 0=x at *
    go_wp2
    obtain⟨wo,rfl⟩:∃ wo:World,wo=wr:=⟨_,rfl⟩
    go_loopw [3,5,6] (fun v qq kk wr=>∃ (k q:Nat) (bs:List UInt8),k≤9∧q<1000000000∧kk=.int .i64 k∧qq=.int .u32 (q:Int)∧Hid (TIn xs bs i k q)∧Hid (wr.ownsRow w.heap.size 5 1 v bs.length (Lib.byteCells bs))∧Hid (Below w.heap.size w wr)) (fun _ _ kk _=>9-(intOf kk).toNat)
    case atStart=>exact⟨0,x,bs,by omega,hq0,rfl,rfl,HS,ho,hn⟩
    case round =>
        clear HS ho hn hcell hq0
        obtain⟨k,q,bs,hk9,hq9,rfl,rfl,hI,ho,hn⟩:=hrel
        have hbl:bs.length≤90009:=by have:=hI.out.len;omega
        have hq9':(q:Int)≤999999999:=by omega
        obtain⟨d,hd⟩:∃ d:Nat,d=q%10:=⟨_,rfl⟩
        have hd10:d<10:=by omega
        have hmod:(q:Int)%10=(d:Int):=by omega
        have hd9:(d:Int)≤9:=by omega
        have w1:IntKind.u8.wrap (48+(d:Int))=48+(d:Int):=by rw[IntKind.wrap_u8];omega
        by_cases hg:k<9∧(i+1<xs.length∨0<q)
        · obtain⟨hk,hg⟩:=hg
          have HST:=hid (show TIn xs (bs++[UInt8.ofNat (48+d)]) i (k+1) (q / 10) by rw[hd];exact hI.out.step hlt HX.out hk hg)
          have Hd:=hid hd
          have Hd10:=hid hd10
          have k1:(k:Int)<9:=by omega
          clear hd hd10 hI
          by_cases hl2:i+1<xs.length
          · have k2:(i:Int)+1<(xs.length:Int):=by omega
            clear hg
            go_wp2_with (at_builtin;refine wpList_append_own _ rfl _ _ 126 rfl w.heap.size 5 i0 (.int .u8 0) 1 1 Tryz.underlying126 hi hz0 hz1 hz2 rfl (by decide) _ _ _ rfl (ho.out.alloc _) ⟨wr.heap.size,0,none⟩ 1 1 [.int .u8 (48+(d:Int))] rfl rfl (cells_one _ _ _) (by intro u hu;simp at hu;subst hu;rfl) (by unfold maxLen;omega) (by omega) (by have:=hn.out.size;simp;omega) ?_)
            intro v' w1 hown' hgrow _
            have HO:=hid (row_snoc Hd10.out hown')
            have HN:=hid ((hn.out.alloc hn.out.size _).grown hgrow (by have:=hn.out.size;simp;omega) (fun k hk=>(ho.out.lt k hk).1))
            clear hown' hgrow
            go_wp2
            go_roundw
            case rel=>exact⟨k+1,q / 10,_,by omega,by omega,by go_num,val_intT (by omega),HST,HO,HN⟩
            case measure=>simp[intOf];omega
          · have k2:decide ((i:Int)+1<(xs.length:Int))=false:=decide_eq_false (by omega)
            have k3:0<(q:Int):=by omega
            clear hg
            go_wp2_with (at_builtin;refine wpList_append_own _ rfl _ _ 126 rfl w.heap.size 5 i0 (.int .u8 0) 1 1 Tryz.underlying126 hi hz0 hz1 hz2 rfl (by decide) _ _ _ rfl (ho.out.alloc _) ⟨wr.heap.size,0,none⟩ 1 1 [.int .u8 (48+(d:Int))] rfl rfl (cells_one _ _ _) (by intro u hu;simp at hu;subst hu;rfl) (by unfold maxLen;omega) (by omega) (by have:=hn.out.size;simp;omega) ?_)
            intro v' w1 hown' hgrow _
            have HO:=hid (row_snoc Hd10.out hown')
            have HN:=hid ((hn.out.alloc hn.out.size _).grown hgrow (by have:=hn.out.size;simp;omega) (fun k hk=>(ho.out.lt k hk).1))
            clear hown' hgrow
            go_wp2
            go_roundw
            case rel=>exact⟨k+1,q / 10,_,by omega,by omega,by go_num,val_intT (by omega),HST,HO,HN⟩
            case measure=>simp[intOf];omega
        · have HD:=hid (hI.out.done hlt HX.out HLA.out (by omega))
          clear hd hd10 hmod w1
          by_cases hk:k<9
          · have k1:(k:Int)<9:=by omega
            have k2:decide ((i:Int)+1<(xs.length:Int))=false:=decide_eq_false (by omega)
            have k3:decide (0<(q:Int))=false:=decide_eq_false (by omega)
            have k4:decide (0<q)=false:=decide_eq_false (by omega)
            have k5:¬ 0<q:=by omega
            clear hg hI
            go_wp2
            go_roundw
            case rel=>exact⟨i+1,bs,by omega,by go_num,HD,ho,hn⟩
            case measure=>simp[intOf];omega
          · have k1:decide ((k:Int)<9)=false:=decide_eq_false (by omega)
            have k2:¬ (k:Int)<9:=by omega
            clear hg hI
            go_wp2
            go_roundw
            case rel=>exact⟨i+1,bs,by omega,by go_num,HD,ho,hn⟩
            case measure=>simp[intOf];omega
  · have hi2:i=xs.length:=by omega
    have hT':=hT.out
    have hbl:=hT'.len HX.out
    rw[hi2]at hT'
    obtain⟨hrev,hbp⟩:=hT'.done
    obtain⟨g,cap,rfl,hg,hcm,hR⟩:=RowB.of_own ho.out hbp
    obtain⟨n,hn0⟩:∃ n,n=bs.length:=⟨_,rfl⟩
    have HR0:=hid (show RowB wr g cap (swp bs 0) by rw[swp_zero];exact hR)
    have Hg:=hid hg
    have HREV:=hid hrev
    rw[← hn0]at hbl hbp
    have Hn0:=hid hn0
    have k1:decide ((i:Int)<(xs.length:Int))=false:=decide_eq_false (by omega)
    rw[← hn0]
    clear hT hT' hrev ho hR hg hi2 hn0 hcm
    go_wp2
    obtain⟨wo,rfl⟩:∃ wo:World,wo=wr:=⟨_,rfl⟩
    go_loopw [7,8] (fun ii kk wr=>∃ (i k:Nat),i+k+1=n∧ii=.int .i64 i∧kk=.int .i64 k∧Hid (RowB wr g cap (swp bs i))∧Hid (Below w.heap.size w wr)) (fun ii _ _=>n-(intOf ii).toNat)
    case atStart=>exact⟨0,n-1,by omega,rfl,val_intT (by omega),HR0,hn⟩
    case round =>
        clear HR0 hn
        obtain⟨i,k,hik,rfl,rfl,hR,hn⟩:=hrel
        have hnl:=Hn0.out
        by_cases hlk:i<k
        · have hkk:bs.length-1-i=k:=by omega
          have hc1:=hR.out.cell (i:=i) (by rw[swp_length];omega)
          have hc2:=hR.out.cell (i:=k) (by rw[swp_length];omega)
          rw[swp_low bs i (by omega)]at hc1
          have hh:=swp_high bs i (by omega)
          rw[hkk]at hh
          rw[hh]at hc2
          have hs:=swp_succ bs i (by omega)
          rw[hkk]at hs
          have hf1:=hR.out.free i
          have hf2:=hR.out.free k
          obtain⟨x,hx⟩:∃ x,x=bs.getD i 0:=⟨_,rfl⟩
          obtain⟨y,hy⟩:∃ y,y=bs.getD k 0:=⟨_,rfl⟩
          rw[← hx]at hc1 hs
          rw[← hy]at hc2 hs
          have HSET:=hid (show RowB (((wr.setCell ⟨g,i,none⟩ (.int .u8 (y.toNat:Int))).setCell ⟨g,k,none⟩ (.int .u8 (x.toNat:Int))).drew) g cap (swp bs (i+1)) by
           have h1:=(hR.out.set i y).set k x
           rw[hs]at h1
           exact h1)
          have HB:=hid (((hn.out.setCell (p:=⟨g,i,none⟩) Hg.out (.int .u8 (y.toNat:Int))).setCell (p:=⟨g,k,none⟩) Hg.out (.int .u8 (x.toNat:Int))).drew)
          have hne:¬ i=k:=by omega
          have j1:(i:Int)<(k:Int):=by omega
          have j2:(k:Int)<(n:Int):=by omega
          have hc3:(wr.setCell ⟨g,i,none⟩ (.int .u8 (y.toNat:Int))).cell? ⟨g,k,none⟩=some (.int .u8 (y.toNat:Int)):=(World.cell?_setCell_other _ _ _ _ (by intro e;injection e with e1 e2;exact hne e2)).trans hc2
          clear hx hy hs hh hkk hR hn hnl
          generalize x.toNat=a at *
          generalize y.toNat=b2 at *
          go_wp2
          go_region
          go_wp2
          go_roundw
          case rel=>exact⟨i+1,k-1,by omega,by go_num,val_intT (by omega),HSET,HB⟩
          case measure=>simp[intOf];omega
        · have hsd:=swp_done bs i (by omega)
          have hR':=hR.out
          rw[hsd,HREV.out]at hR'
          have hdl:(Lib.decDigits (wval xs)).length=n:=by rw[← HREV.out,List.length_reverse];omega
          have hcv:(convert 126 9 (.slice (some ⟨g,0,none⟩) n cap)).run Tryz.prog wr=.ok (.string ⟨(Lib.decDigits (wval xs)).toArray⟩) wr:=by
           have h:=run_convert_bytes_back (P:=Tryz.prog) wr 126 9 5 ⟨g,0,none⟩ cap (Lib.decDigits (wval xs)) Tryz.underlying126 Tryz.underlying5 Tryz.underlying9 (fun j hj=>by
            have h1:=hR'.cell hj
            rw[Lib.add_plain,Nat.zero_add,h1]
            simp[List.getD,hj])
           rw[hdl]at h
           exact h
          have k2:decide ((i:Int)<(k:Int))=false:=decide_eq_false (by omega)
          clear hsd hR hR' hdl hnl
          go_wp2
          go_ret
          exact⟨rfl,hn.out⟩
end Go.Proofs.YtmigpoiajkihhaaGreatDoor
set_option maxRecDepth 100000
set_option maxHeartbeats 20000000
open Go.Lib (hid)
namespace Go.Gb
theorem getD_ge {xs:List Nat}{i:Nat}(h:xs.length≤i):xs.getD i 0=0:=by simp[List.getD,h]
theorem getD_ltB {xs:List Nat}(h:∀ x∈xs,x<BB)(i:Nat):xs.getD i 0<BB:=by
 by_cases hi:i<xs.length
 · exact h _ (mem_getD hi)
 · rw[getD_ge (by omega)];exact BB_pos
theorem SumInv.end0 {x y os:List Nat}{i:Nat}(h:SumInv x y os i 0)(hx:x.length≤i)(hy:y.length≤i):wval os=wval x+wval y∧∀ w∈os,w<BB:=by
 obtain⟨h1,h2,h3,h4⟩:=h
 rw[List.take_of_length_le hx,List.take_of_length_le hy]at h4
 exact⟨by omega,h2⟩
open Go.RowKit in
theorem Rd.gen {k:IntKind}{w:World}{v:Value}{xs:List Nat}(h:Rd k w v xs):∃ p c,v=.slice p xs.length c∧∀ i,i<xs.length→∃ b o,p=some ⟨b,o,none⟩∧b<w.heap.size∧w.cell? ⟨b,o+i,none⟩=some (.int k ((xs.getD i 0:Nat):Int)):=by
 rcases h with⟨rfl,rfl⟩|⟨b,o,c,rfl,_,_,hb,hc⟩
 · exact⟨none,0,rfl,fun i hi=>by simp at hi⟩
 · exact⟨some ⟨b,o,none⟩,c,rfl,fun i hi=>⟨b,o,rfl,hb,hc i hi⟩⟩
end Go.Gb
namespace Go.Proofs.YtmigpoiajkihhaaGreatDoor
open Go.RowKit Go.Gb
theorem RPlus_any (v1 v2:Value)(a b:Nat)(hla:(digs a).length≤100000)(hlb:(digs b).length≤100000)(w:World)(h1:Rd .u32 w v1 (digs a))(h2:Rd .u32 w v2 (digs b)) :
 Calls Tryz.prog 140 #[v1,v2] w fun e w'=>∃ v,e=.returned v∧Own .u32 81 w.heap.size w' v (digs (a+b))∧Below w.heap.size w w':=by
 obtain⟨i0,hi,hz0,hz1,hz2⟩:=info_parts Tryz.info81
 obtain⟨p1,c1,rfl,r1⟩:=h1.gen
 obtain⟨p2,c2,rfl,r2⟩:=h2.gen
 have hx:=digs_lt a
 have hy:=digs_lt b
 have hva:=wval_digs a
 have hvb:=wval_digs b
 generalize digs a=xs at *
 generalize digs b=ys at *
 have HR1:=hid r1
 have HR2:=hid r2
 have HX:=hid hx
 have HY:=hid hy
 have HVA:=hid hva
 have HVB:=hid hvb
 have HO0:=hid (World.ownsRow_nil w w.heap.size 81 1)
 clear h1 h2 r1 r2 hx hy hva hvb
 go_enter Tryz.func140,Tryz.ntmps140
 go_wp2
 go_loopw [5,6,7,8] (fun v cc ii _ wr=>∃ (i k:Nat) (os:List Nat),i≤xs.length+ys.length+1∧ii=.int .i64 i∧cc=.int .u32 (k:Int)∧(k=0∨i≤xs.length∨i≤ys.length)∧os.length=i∧Hid (wr.ownsRow w.heap.size 81 1 v os.length (cls .u32 os))∧Hid (SumInv xs ys os i k)∧Hid (Below w.heap.size w wr)) (fun _ _ ii _ _=>xs.length+ys.length+2-(intOf ii).toNat)
 case atStart=>exact⟨0,0,[],by omega,rfl,rfl,Or.inl rfl,rfl,HO0,SumInv.start xs ys,Below.refl _ _⟩
 case round =>
  obtain⟨i,k,os,hiM,rfl,rfl,hki,hol,ho,hI,hn⟩:=hrel
  have hk1:k≤1:=hI.out.2.2.1
  have hst:=hI.out.step (getD_ltB HX.out i) (getD_ltB HY.out i)
  have i1:(i:Int)≤200001:=by omega
  have hol2:os.length≤200001:=by omega
  by_cases hxi:i<xs.length
  · by_cases hyi:i<ys.length
    · obtain⟨b1,o1,rfl,hb1,hc1⟩:=HR1.out i hxi
      have hcx:=(hn.out.cell (p:=⟨b1,o1+i,none⟩) hb1).trans hc1
      have hxB:=getD_ltB HX.out i
      have j1:(i:Int)<(xs.length:Int):=by omega
      have d1:decide ((i:Int)<(xs.length:Int))=true:=decide_eq_true j1
      obtain⟨b2,o2,rfl,hb2,hc2⟩:=HR2.out i hyi
      have hcy:=(hn.out.cell (p:=⟨b2,o2+i,none⟩) hb2).trans hc2
      have hyB:=getD_ltB HY.out i
      have j2:(i:Int)<(ys.length:Int):=by omega
      have d2:decide ((i:Int)<(ys.length:Int))=true:=decide_eq_true j2
      have HST:=hid hst
      clear hst hI hb1 hc1 hb2 hc2
      generalize xs.getD i 0=x at *
      rw[BB_eq]at hxB
      have hx9:(x:Int)≤999999999:=by omega
      generalize ys.getD i 0=y at *
      rw[BB_eq]at hyB
      have hy9:(y:Int)≤999999999:=by omega
      obtain⟨lo,hlo⟩:∃ lo:Nat,lo=(x+y+k)%BB:=⟨_,rfl⟩
      obtain⟨hc,hhc⟩:∃ hc:Nat,hc=(x+y+k) / BB:=⟨_,rfl⟩
      have HST2:=hid (show SumInv xs ys (os++[lo]) (i+1) hc by rw[hlo,hhc];exact HST.out)
      have hmod:((k:Int)+(x:Int)+(y:Int))%1000000000=(lo:Int):=by rw[hlo,BB_eq];omega
      have hdiv:((k:Int)+(x:Int)+(y:Int)) / 1000000000=(hc:Int):=by rw[hhc,BB_eq];omega
      have hk9:(k:Int)≤1:=by omega
      clear hlo hhc HST hxB hyB hk1
      go_wp2_with (at_builtin;refine wpList_append_own _ rfl _ _ 48 rfl w.heap.size 81 i0 (.int .u32 0) 1 4 Tryz.underlying48 hi hz0 hz1 hz2 rfl (by decide) _ _ _ rfl (ho.out.alloc _) ⟨wr.heap.size,0,none⟩ 1 1 [.int .u32 (lo:Int)] rfl rfl (cells_one _ _ _) (by intro u hu;simp at hu;subst hu;rfl) (by unfold maxLen;omega) (by omega) (by have:=hn.out.size;simp;omega) ?_)
      intro v' w1 hown' hgrow _
      have HO:=hid hown'
      have HN:=hid ((hn.out.alloc hn.out.size _).grown hgrow (by have:=hn.out.size;simp;omega) (fun k hk=>(ho.out.lt k hk).1))
      clear hown' hgrow
      go_wp2
      go_roundw
      case rel=>exact⟨i+1,hc,os++[lo],by omega,by go_num,by first|rfl|exact val_int1 hdiv|simp,Or.inr (Or.inl (by omega)),by simp[hol],by have:=HO.out;rw[cls_append,List.length_append,hol];exact this,HST2,HN⟩
      case measure=>simp[intOf];omega
    · obtain⟨b1,o1,rfl,hb1,hc1⟩:=HR1.out i hxi
      have hcx:=(hn.out.cell (p:=⟨b1,o1+i,none⟩) hb1).trans hc1
      have hxB:=getD_ltB HX.out i
      have j1:(i:Int)<(xs.length:Int):=by omega
      have d1:decide ((i:Int)<(xs.length:Int))=true:=decide_eq_true j1
      have d2:decide ((i:Int)<(ys.length:Int))=false:=decide_eq_false (by omega)
      rw[getD_ge (xs:=ys) (by omega)]at hst
      have HST:=hid hst
      clear hst hI hb1 hc1
      generalize xs.getD i 0=x at *
      rw[BB_eq]at hxB
      have hx9:(x:Int)≤999999999:=by omega
      obtain⟨lo,hlo⟩:∃ lo:Nat,lo=(x+0+k)%BB:=⟨_,rfl⟩
      obtain⟨hc,hhc⟩:∃ hc:Nat,hc=(x+0+k) / BB:=⟨_,rfl⟩
      have HST2:=hid (show SumInv xs ys (os++[lo]) (i+1) hc by rw[hlo,hhc];exact HST.out)
      have hmod:((k:Int)+(x:Int))%1000000000=(lo:Int):=by rw[hlo,BB_eq];omega
      have hdiv:((k:Int)+(x:Int)) / 1000000000=(hc:Int):=by rw[hhc,BB_eq];omega
      have hk9:(k:Int)≤1:=by omega
      clear hlo hhc HST hxB hk1
      go_wp2_with (at_builtin;refine wpList_append_own _ rfl _ _ 48 rfl w.heap.size 81 i0 (.int .u32 0) 1 4 Tryz.underlying48 hi hz0 hz1 hz2 rfl (by decide) _ _ _ rfl (ho.out.alloc _) ⟨wr.heap.size,0,none⟩ 1 1 [.int .u32 (lo:Int)] rfl rfl (cells_one _ _ _) (by intro u hu;simp at hu;subst hu;rfl) (by unfold maxLen;omega) (by omega) (by have:=hn.out.size;simp;omega) ?_)
      intro v' w1 hown' hgrow _
      have HO:=hid hown'
      have HN:=hid ((hn.out.alloc hn.out.size _).grown hgrow (by have:=hn.out.size;simp;omega) (fun k hk=>(ho.out.lt k hk).1))
      clear hown' hgrow
      go_wp2
      go_roundw
      case rel=>exact⟨i+1,hc,os++[lo],by omega,by go_num,by first|rfl|exact val_int1 hdiv|simp,Or.inr (Or.inl (by omega)),by simp[hol],by have:=HO.out;rw[cls_append,List.length_append,hol];exact this,HST2,HN⟩
      case measure=>simp[intOf];omega
  · by_cases hyi:i<ys.length
    · have d1:decide ((i:Int)<(xs.length:Int))=false:=decide_eq_false (by omega)
      rw[getD_ge (xs:=xs) (by omega)]at hst
      obtain⟨b2,o2,rfl,hb2,hc2⟩:=HR2.out i hyi
      have hcy:=(hn.out.cell (p:=⟨b2,o2+i,none⟩) hb2).trans hc2
      have hyB:=getD_ltB HY.out i
      have j2:(i:Int)<(ys.length:Int):=by omega
      have d2:decide ((i:Int)<(ys.length:Int))=true:=decide_eq_true j2
      have HST:=hid hst
      clear hst hI hb2 hc2
      generalize ys.getD i 0=y at *
      rw[BB_eq]at hyB
      have hy9:(y:Int)≤999999999:=by omega
      obtain⟨lo,hlo⟩:∃ lo:Nat,lo=(0+y+k)%BB:=⟨_,rfl⟩
      obtain⟨hc,hhc⟩:∃ hc:Nat,hc=(0+y+k) / BB:=⟨_,rfl⟩
      have HST2:=hid (show SumInv xs ys (os++[lo]) (i+1) hc by rw[hlo,hhc];exact HST.out)
      have hmod:((k:Int)+(y:Int))%1000000000=(lo:Int):=by rw[hlo,BB_eq];omega
      have hdiv:((k:Int)+(y:Int)) / 1000000000=(hc:Int):=by rw[hhc,BB_eq];omega
      have hk9:(k:Int)≤1:=by omega
      clear hlo hhc HST hyB hk1
      go_wp2_with (at_builtin;refine wpList_append_own _ rfl _ _ 48 rfl w.heap.size 81 i0 (.int .u32 0) 1 4 Tryz.underlying48 hi hz0 hz1 hz2 rfl (by decide) _ _ _ rfl (ho.out.alloc _) ⟨wr.heap.size,0,none⟩ 1 1 [.int .u32 (lo:Int)] rfl rfl (cells_one _ _ _) (by intro u hu;simp at hu;subst hu;rfl) (by unfold maxLen;omega) (by omega) (by have:=hn.out.size;simp;omega) ?_)
      intro v' w1 hown' hgrow _
      have HO:=hid hown'
      have HN:=hid ((hn.out.alloc hn.out.size _).grown hgrow (by have:=hn.out.size;simp;omega) (fun k hk=>(ho.out.lt k hk).1))
      clear hown' hgrow
      go_wp2
      go_roundw
      case rel=>exact⟨i+1,hc,os++[lo],by omega,by go_num,by first|rfl|exact val_int1 hdiv|simp,Or.inr (Or.inr (by omega)),by simp[hol],by have:=HO.out;rw[cls_append,List.length_append,hol];exact this,HST2,HN⟩
      case measure=>simp[intOf];omega
    · by_cases hk0:k=0
      · subst hk0
        have d1:decide ((i:Int)<(xs.length:Int))=false:=decide_eq_false (by omega)
        have d2:decide ((i:Int)<(ys.length:Int))=false:=decide_eq_false (by omega)
        obtain⟨hv,hB⟩:=hI.out.end0 (by omega) (by omega)
        have htr:=rtrim_own 81 w.heap.size _ os hB wr ho.out
        rw[hv,HVA.out,HVB.out]at htr
        have HTR:=hid htr
        clear hst hv hB htr hI
        go_wp2_with fail
        refine HTR.out.mono ?_
        rintro e w2 ⟨v',rfl,hown,rfl⟩
        go_wp2
        go_ret
        exact⟨v',rfl,hown,hn.out⟩
      · have d1:decide ((i:Int)<(xs.length:Int))=false:=decide_eq_false (by omega)
        rw[getD_ge (xs:=xs) (by omega)]at hst
        have d2:decide ((i:Int)<(ys.length:Int))=false:=decide_eq_false (by omega)
        rw[getD_ge (xs:=ys) (by omega)]at hst
        obtain rfl:k=1:=by omega
        have HST:=hid hst
        clear hst hI
        obtain⟨lo,hlo⟩:∃ lo:Nat,lo=(0+0+1)%BB:=⟨_,rfl⟩
        obtain⟨hc,hhc⟩:∃ hc:Nat,hc=(0+0+1) / BB:=⟨_,rfl⟩
        have HST2:=hid (show SumInv xs ys (os++[lo]) (i+1) hc by rw[hlo,hhc];exact HST.out)
        have hlo1:lo=1:=by rw[hlo,BB_eq]
        have hhc0:hc=0:=by rw[hhc,BB_eq]
        subst hlo1 hhc0
        clear hlo hhc HST
        go_wp2_with (at_builtin;refine wpList_append_own _ rfl _ _ 48 rfl w.heap.size 81 i0 (.int .u32 0) 1 4 Tryz.underlying48 hi hz0 hz1 hz2 rfl (by decide) _ _ _ rfl (ho.out.alloc _) ⟨wr.heap.size,0,none⟩ 1 1 [.int .u32 1] rfl rfl (cells_one _ _ _) (by intro u hu;simp at hu;subst hu;rfl) (by unfold maxLen;omega) (by omega) (by have:=hn.out.size;simp;omega) ?_)
        intro v' w1 hown' hgrow _
        have HO:=hid hown'
        have HN:=hid ((hn.out.alloc hn.out.size _).grown hgrow (by have:=hn.out.size;simp;omega) (fun k hk=>(ho.out.lt k hk).1))
        clear hown' hgrow
        go_wp2
        go_roundw
        case rel=>exact⟨i+1,0,os++[1],by omega,by go_num,by first|rfl|exact val_int1 hdiv|simp,Or.inl rfl,by simp[hol],by have:=HO.out;rw[cls_append,List.length_append,hol];exact this,HST2,HN⟩
        case measure=>simp[intOf];omega
end Go.Proofs.YtmigpoiajkihhaaGreatDoor
set_option maxRecDepth 100000
set_option maxHeartbeats 20000000
open Go.Lib (hid)
namespace Go.Proofs.YtmigpoiajkihhaaGreatDoor
open Go.RowKit Go.Gb
theorem RMinus_any (v1 v2:Value)(a b:Nat)(hab:b≤a)(hla:(digs a).length≤100000)(w:World)(h1:Rd .u32 w v1 (digs a))(h2:Rd .u32 w v2 (digs b)) :
 Calls Tryz.prog 141 #[v1,v2] w fun e w'=>∃ v,e=.returned v∧Own .u32 81 w.heap.size w' v (digs (a-b))∧Below w.heap.size w w':=by
 obtain⟨i0,hi,hz0,hz1,hz2⟩:=info_parts Tryz.info81
 have hlb:=digs_length_mono hab
 obtain⟨p1,c1,rfl,r1⟩:=h1.gen
 obtain⟨p2,c2,rfl,r2⟩:=h2.gen
 have hx:=digs_lt a
 have hy:=digs_lt b
 have hva:=wval_digs a
 have hvb:=wval_digs b
 generalize digs a=xs at *
 generalize digs b=ys at *
 have HR1:=hid r1
 have HR2:=hid r2
 have HX:=hid hx
 have HY:=hid hy
 have HVA:=hid hva
 have HVB:=hid hvb
 have HAB:=hid hab
 have HO0:=hid (World.ownsRow_nil w w.heap.size 81 1)
 clear h1 h2 r1 r2 hx hy hva hvb hab
 go_enter Tryz.func141,Tryz.ntmps141
 go_wp2
 go_loopw [5,6,7,8] (fun v cc ii _ wr=>∃ (i k:Nat) (os:List Nat),i≤xs.length∧ii=.int .i64 i∧cc=.int .i64 (k:Int)∧os.length=i∧Hid (wr.ownsRow w.heap.size 81 1 v os.length (cls .u32 os))∧Hid (DifInv xs ys os i k)∧Hid (Below w.heap.size w wr)) (fun _ _ ii _ _=>xs.length-(intOf ii).toNat)
 case atStart=>exact⟨0,0,[],by omega,rfl,rfl,rfl,HO0,DifInv.start xs ys,Below.refl _ _⟩
 case round =>
  obtain⟨i,k,os,hiM,rfl,rfl,hol,ho,hI,hn⟩:=hrel
  have hk1:k≤1:=hI.out.2.2.1
  have hk9:(k:Int)≤1:=by omega
  by_cases hxi:i<xs.length
  · obtain⟨b1,o1,rfl,hb1,hc1⟩:=HR1.out i hxi
    have hcx:=(hn.out.cell (p:=⟨b1,o1+i,none⟩) hb1).trans hc1
    have hxB:=getD_ltB HX.out i
    have hyB:=getD_ltB HY.out i
    have j1:(i:Int)<(xs.length:Int):=by omega
    have d1:decide ((i:Int)<(xs.length:Int))=true:=decide_eq_true j1
    have hsm:=hI.out.small hxB
    have hbg:=hI.out.big hyB
    have hol2:os.length≤100000:=by omega
    have i1:(i:Int)≤100000:=by omega
    clear hb1 hc1 hI
    by_cases hyi:i<ys.length
    · obtain⟨b2,o2,rfl,hb2,hc2⟩:=HR2.out i hyi
      have hcy:=(hn.out.cell (p:=⟨b2,o2+i,none⟩) hb2).trans hc2
      have j2:(i:Int)<(ys.length:Int):=by omega
      have d2:decide ((i:Int)<(ys.length:Int))=true:=decide_eq_true j2
      clear hb2 hc2
      generalize xs.getD i 0=x at *
      generalize ys.getD i 0=y at *
      rw[BB_eq]at hxB hyB
      have hx9:(x:Int)≤999999999:=by omega
      have hy9:(y:Int)≤999999999:=by omega
      clear hxB hyB
      by_cases hng:x<y+k
      · obtain⟨lo,hlo⟩:∃ lo:Nat,lo=x+BB-(y+k):=⟨_,rfl⟩
        have HST:=hid (show DifInv xs ys (os++[lo]) (i+1) 1 by rw[hlo];exact hbg (by omega))
        have hval:(x:Int)-(k:Int)-(y:Int)+1000000000=(lo:Int):=by rw[hlo,BB_eq];omega
        have hneg:(x:Int)-(k:Int)-(y:Int)<0:=by omega
        have hlo9:(lo:Int)≤999999999:=by rw[BB_eq]at hlo;omega
        clear hlo hsm hbg hng
        go_wp2_with (at_builtin;refine wpList_append_own _ rfl _ _ 48 rfl w.heap.size 81 i0 (.int .u32 0) 1 4 Tryz.underlying48 hi hz0 hz1 hz2 rfl (by decide) _ _ _ rfl (ho.out.alloc _) ⟨wr.heap.size,0,none⟩ 1 1 [.int .u32 (lo:Int)] rfl rfl (cells_one _ _ _) (by intro u hu;simp at hu;subst hu;rfl) (by unfold maxLen;omega) (by omega) (by have:=hn.out.size;simp;omega) ?_)
        intro v' w1 hown' hgrow _
        have HO:=hid hown'
        have HN:=hid ((hn.out.alloc hn.out.size _).grown hgrow (by have:=hn.out.size;simp;omega) (fun k hk=>(ho.out.lt k hk).1))
        clear hown' hgrow
        go_wp2
        go_roundw
        case rel=>exact⟨i+1,1,os++[lo],by omega,by go_num,rfl,by simp[hol],by have:=HO.out;rw[cls_append,List.length_append,hol];exact this,HST,HN⟩
        case measure=>simp[intOf];omega
      · obtain⟨lo,hlo⟩:∃ lo:Nat,lo=x-(y+k):=⟨_,rfl⟩
        have HST:=hid (show DifInv xs ys (os++[lo]) (i+1) 0 by rw[hlo];exact hsm (by omega))
        have hval:(x:Int)-(k:Int)-(y:Int)=(lo:Int):=by rw[hlo];omega
        have hneg:decide ((lo:Int)<0)=false:=decide_eq_false (by omega)
        have hlo9:(lo:Int)≤999999999:=by omega
        clear hlo hsm hbg hng
        go_wp2_with (at_builtin;refine wpList_append_own _ rfl _ _ 48 rfl w.heap.size 81 i0 (.int .u32 0) 1 4 Tryz.underlying48 hi hz0 hz1 hz2 rfl (by decide) _ _ _ rfl (ho.out.alloc _) ⟨wr.heap.size,0,none⟩ 1 1 [.int .u32 (lo:Int)] rfl rfl (cells_one _ _ _) (by intro u hu;simp at hu;subst hu;rfl) (by unfold maxLen;omega) (by omega) (by have:=hn.out.size;simp;omega) ?_)
        intro v' w1 hown' hgrow _
        have HO:=hid hown'
        have HN:=hid ((hn.out.alloc hn.out.size _).grown hgrow (by have:=hn.out.size;simp;omega) (fun k hk=>(ho.out.lt k hk).1))
        clear hown' hgrow
        go_wp2
        go_roundw
        case rel=>exact⟨i+1,0,os++[lo],by omega,by go_num,rfl,by simp[hol],by have:=HO.out;rw[cls_append,List.length_append,hol];exact this,HST,HN⟩
        case measure=>simp[intOf];omega
    · have d2:decide ((i:Int)<(ys.length:Int))=false:=decide_eq_false (by omega)
      rw[getD_ge (xs:=ys) (by omega)]at hsm hbg
      clear hyB
      generalize xs.getD i 0=x at *
      rw[BB_eq]at hxB
      have hx9:(x:Int)≤999999999:=by omega
      clear hxB
      by_cases hng:x<0+k
      · obtain⟨lo,hlo⟩:∃ lo:Nat,lo=x+BB-(0+k):=⟨_,rfl⟩
        have HST:=hid (show DifInv xs ys (os++[lo]) (i+1) 1 by rw[hlo];exact hbg (by omega))
        have hval:(x:Int)-(k:Int)+1000000000=(lo:Int):=by rw[hlo,BB_eq];omega
        have hneg:(x:Int)-(k:Int)<0:=by omega
        have hlo9:(lo:Int)≤999999999:=by rw[BB_eq]at hlo;omega
        clear hlo hsm hbg hng
        go_wp2_with (at_builtin;refine wpList_append_own _ rfl _ _ 48 rfl w.heap.size 81 i0 (.int .u32 0) 1 4 Tryz.underlying48 hi hz0 hz1 hz2 rfl (by decide) _ _ _ rfl (ho.out.alloc _) ⟨wr.heap.size,0,none⟩ 1 1 [.int .u32 (lo:Int)] rfl rfl (cells_one _ _ _) (by intro u hu;simp at hu;subst hu;rfl) (by unfold maxLen;omega) (by omega) (by have:=hn.out.size;simp;omega) ?_)
        intro v' w1 hown' hgrow _
        have HO:=hid hown'
        have HN:=hid ((hn.out.alloc hn.out.size _).grown hgrow (by have:=hn.out.size;simp;omega) (fun k hk=>(ho.out.lt k hk).1))
        clear hown' hgrow
        go_wp2
        go_roundw
        case rel=>exact⟨i+1,1,os++[lo],by omega,by go_num,rfl,by simp[hol],by have:=HO.out;rw[cls_append,List.length_append,hol];exact this,HST,HN⟩
        case measure=>simp[intOf];omega
      · obtain⟨lo,hlo⟩:∃ lo:Nat,lo=x-(0+k):=⟨_,rfl⟩
        have HST:=hid (show DifInv xs ys (os++[lo]) (i+1) 0 by rw[hlo];exact hsm (by omega))
        have hval:(x:Int)-(k:Int)=(lo:Int):=by rw[hlo];omega
        have hneg:decide ((lo:Int)<0)=false:=decide_eq_false (by omega)
        have hlo9:(lo:Int)≤999999999:=by omega
        clear hlo hsm hbg hng
        go_wp2_with (at_builtin;refine wpList_append_own _ rfl _ _ 48 rfl w.heap.size 81 i0 (.int .u32 0) 1 4 Tryz.underlying48 hi hz0 hz1 hz2 rfl (by decide) _ _ _ rfl (ho.out.alloc _) ⟨wr.heap.size,0,none⟩ 1 1 [.int .u32 (lo:Int)] rfl rfl (cells_one _ _ _) (by intro u hu;simp at hu;subst hu;rfl) (by unfold maxLen;omega) (by omega) (by have:=hn.out.size;simp;omega) ?_)
        intro v' w1 hown' hgrow _
        have HO:=hid hown'
        have HN:=hid ((hn.out.alloc hn.out.size _).grown hgrow (by have:=hn.out.size;simp;omega) (fun k hk=>(ho.out.lt k hk).1))
        clear hown' hgrow
        go_wp2
        go_roundw
        case rel=>exact⟨i+1,0,os++[lo],by omega,by go_num,rfl,by simp[hol],by have:=HO.out;rw[cls_append,List.length_append,hol];exact this,HST,HN⟩
        case measure=>simp[intOf];omega
  · have d1:decide ((i:Int)<(xs.length:Int))=false:=decide_eq_false (by omega)
    obtain rfl:i=xs.length:=by omega
    obtain⟨hv,hB⟩:=hI.out.done hlb (by rw[HVA.out,HVB.out];exact HAB.out)
    have htr:=rtrim_own 81 w.heap.size _ os hB wr ho.out
    rw[hv,HVA.out,HVB.out]at htr
    have HTR:=hid htr
    clear hv hB htr hI
    go_wp2_with fail
    refine HTR.out.mono ?_
    rintro e w2 ⟨v',rfl,hown,rfl⟩
    go_wp2
    go_ret
    exact⟨v',rfl,hown,hn.out⟩
end Go.Proofs.YtmigpoiajkihhaaGreatDoor
namespace Go.Gb
def TI (x y os:List Nat) (i:Nat):Prop:=os.length=x.length+y.length∧(∀ w∈os,w<BB)∧wval os=wval (x.take i)*wval y
def TR (x y os:List Nat) (i k c:Nat):Prop:=os.length=x.length+y.length∧(∀ w∈os,w<BB)∧c<BB∧os.getD (i+y.length) 0=0∧wval os+BB^(i+k)*c=wval (x.take i)*wval y+BB^i*(x.getD i 0*wval (y.take k))
theorem set_lt {os:List Nat}{m v:Nat}(h:∀ w∈os,w<BB)(hv:v<BB):∀ w∈os.set m v,w<BB:=by
 intro w hw
 rcases List.mem_or_eq_of_mem_set hw with hw|hw
 · exact h w hw
 · rw[hw];exact hv
theorem high_zero {os:List Nat}{m:Nat}(h:wval os<BB^m):os.getD m 0=0:=by
 by_cases hm:m<os.length
 · have h1:=wval_split os m (by omega)
   rw[wval_drop hm]at h1
   rcases Nat.eq_zero_or_pos (os.getD m 0) with h2|h2
   · exact h2
   · have:BB^m*1≤BB^m*(os.getD m 0+BB*wval (os.drop (m+1))):=Nat.mul_le_mul_left _ (by omega)
     omega
 · exact getD_ge (by omega)
theorem TI.start (x y:List Nat):TI x y (List.replicate (x.length+y.length) 0) 0:=by
 refine⟨by simp,fun w hw=>by rw[(List.mem_replicate.1 hw).2];exact BB_pos,?_⟩
 have:=wval_zeros [] (x.length+y.length)
 simpa [wval] using this
theorem TI.row {x y os:List Nat}{i:Nat}(h:TI x y os i)(hi:i<x.length)(hx:∀ w∈x,w<BB)(hy:∀ w∈y,w<BB):TR x y os i 0 0:=by
 obtain⟨h1,h2,h3⟩:=h
 refine⟨h1,h2,BB_pos,high_zero ?_,by rw[h3,Nat.mul_zero,Nat.add_zero,List.take_zero];simp[wval]⟩
 have l1:=wval_le_of_len (n:=i) (xs:=x.take i) (fun w hw=>hx w (List.mem_of_mem_take hw)) (by simp;omega)
 have l2:=wval_lt y hy
 rw[h3,Nat.pow_add]
 exact Nat.mul_lt_mul_of_lt_of_le l1 (Nat.le_of_lt l2) (Nat.pow_pos BB_pos)
theorem TR.bound {o a b c:Nat}(ho:o<BB)(ha:a<BB)(hb:b<BB)(hc:c<BB):a*b≤999999998000000001∧o+a*b+c<BB*BB:=by
 have h:=word_mul ha hb
 refine⟨h,?_⟩
 rw[BB_eq]at *
 omega
theorem TR.step {x y os:List Nat}{i k c:Nat}(h:TR x y os i k c)(hi:i<x.length)(hk:k<y.length)(hx:∀ w∈x,w<BB)(hy:∀ w∈y,w<BB) :
 TR x y (os.set (i+k) ((os.getD (i+k) 0+x.getD i 0*y.getD k 0+c)%BB)) i (k+1) ((os.getD (i+k) 0+x.getD i 0*y.getD k 0+c) / BB):=by
 obtain⟨h1,h2,h3,h4,h5⟩:=h
 have hb:=(TR.bound (h2 _ (mem_getD (i:=i+k) (by omega))) (hx _ (mem_getD hi)) (hy _ (mem_getD hk)) h3).2
 have hm:=Nat.div_add_mod (os.getD (i+k) 0+x.getD i 0*y.getD k 0+c) BB
 have hs:=wval_set (xs:=os) (i:=i+k) (v:=(os.getD (i+k) 0+x.getD i 0*y.getD k 0+c)%BB) (by omega)
 refine⟨by simp[h1],set_lt h2 (Nat.mod_lt _ BB_pos),(Nat.div_lt_iff_lt_mul BB_pos).2 hb,?_,?_⟩
 · rw[getD_set,if_neg (by omega)];exact h4
 · rw[take_succ_any y k,Nat.mul_add (x.getD i 0),Nat.mul_add (BB^i)]
   rw[show BB^i*(x.getD i 0*(BB^k*y.getD k 0))=BB^(i+k)*(x.getD i 0*y.getD k 0) by rw[Nat.pow_add,Nat.mul_left_comm (x.getD i 0),Nat.mul_assoc]]
   rw[← Nat.add_assoc i k 1,Nat.pow_succ,Nat.mul_assoc]
   generalize (os.getD (i+k) 0+x.getD i 0*y.getD k 0+c)%BB=lo at *
   generalize (os.getD (i+k) 0+x.getD i 0*y.getD k 0+c) / BB=q at *
   have e:=congrArg (BB^(i+k) * ·) hm
   simp only[Nat.mul_add]at e
   omega
theorem TR.next {x y os:List Nat}{i c:Nat}(h:TR x y os i y.length c)(hi:i<x.length):TI x y (os.set (i+y.length) c) (i+1):=by
 obtain⟨h1,h2,h3,h4,h5⟩:=h
 have hs:=wval_set (xs:=os) (i:=i+y.length) (v:=c) (by omega)
 rw[h4,Nat.mul_zero,Nat.add_zero]at hs
 refine⟨by simp[h1],set_lt h2 h3,?_⟩
 rw[hs,h5,List.take_of_length_le (Nat.le_refl _),take_succ_any x i,Nat.add_mul,Nat.mul_assoc]
theorem TI.done {x y os:List Nat}(h:TI x y os x.length):wval os=wval x*wval y:=by rw[h.2.2,List.take_of_length_le (Nat.le_refl _)]
end Go.Gb
namespace Go.Proofs.YtmigpoiajkihhaaGreatDoor
open Go.RowKit Go.Gb
def Blk4 (w:World) (g:Nat) (zs:List Nat):Prop:=w.heap[g]? = some (.cells (cls .u32 zs).toArray 81 (0,0))
theorem Blk4.cell {w:World}{g:Nat}{zs:List Nat}(h:Blk4 w g zs){i:Nat}(hi:i<zs.length):w.cell? ⟨g,i,none⟩=some (.int .u32 ((zs.getD i 0:Nat):Int)):=by
 unfold Blk4 at h
 have:=cls_get (k:=.u32) hi
 simp only[World.cell?,h]
 simpa using this
theorem Blk4.free {w:World}{g:Nat}{zs:List Nat}(h:Blk4 w g zs)(i:Nat):w.frozen? ⟨g,i,none⟩=false:=by
 unfold Blk4 at h
 simp only[World.frozen?,h]
 simp
theorem Blk4.set {w:World}{g:Nat}{zs:List Nat}(h:Blk4 w g zs)(i v:Nat):Blk4 (w.setCell ⟨g,i,none⟩ (.int .u32 ((v:Nat):Int))) g (zs.set i v):=by
 unfold Blk4 at *
 simp only[World.setCell,Array.getElem?_modify,h]
 simp[cls_set]
theorem Blk4.below {w w':World}{g:Nat}{zs:List Nat}(h:Blk4 w g zs)(hb:Below w.heap.size w w'):Blk4 w' g zs:=by
 unfold Blk4 at *
 rw[hb.block g (Array.getElem?_eq_some_iff.1 h).1]
 exact h
theorem Blk4.own {w:World}{g B:Nat}{zs:List Nat}(h:Blk4 w g zs)(hB:B≤g)(hm:zs.length≤maxLen):Own .u32 81 B w (.slice (some ⟨g,0,none⟩) zs.length zs.length) zs:=by
 refine⟨by simp[cls],Or.inr ⟨g,zs.length,(cls .u32 zs).toArray,rfl,hB,h,Nat.le_refl _,hm,by simp[cls],?_⟩⟩
 rw[Nat.mul_one,← cls_take,List.take_of_length_le (Nat.le_refl _)]
theorem Blk4.of_made {w:World}{B g n:Nat}{xs:List Value}{zs:List Nat}(h:w.ownsRow B 81 1 (.slice (some ⟨g,0,none⟩) n n) n xs)(hx:xs=cls .u32 zs):Blk4 w g zs:=by
 obtain⟨h1,h2⟩:=h
 rcases h2 with⟨h2,_⟩|⟨g',cap,cur,hv,hg,hh,hn,hc,hs,ht⟩
 · cases h2
 · injection hv with e1 e2 e3
   injection e1 with e1
   injection e1 with e4 e5 e6
   subst e4 e3
   unfold Blk4
   rw[hh]
   rw[Nat.mul_one]at ht hs
   rw[List.take_of_length_le (by simpa using Nat.le_of_eq hs)]at ht
   congr 2
   rw[← hx,← ht]
end Go.Proofs.YtmigpoiajkihhaaGreatDoor
