/- Texts of this proof, one behind the other. -/
import Derived.Test.YthjmjlfnpnbonaaGreatDoorMz11q
import Derived.Laws.CopyOwn
set_option maxRecDepth 100000
set_option maxHeartbeats 20000000
open Go.Lib (hid)
namespace Go.Gb
theorem getD_ge {xs:List Nat}{i:Nat}(h:xs.length≤i):xs.getD i 0=0:=by simp[List.getD,h]
theorem getD_ltB {xs:List Nat}(h:∀ x∈xs,x<BB)(i:Nat):xs.getD i 0<BB:=by
 by_cases hi:i<xs.length
 · exact h _ (mem_getD hi)
 · rw[getD_ge (by omega)];exact BB_pos
theorem SumInv.end0 {x y os:List Nat}{i:Nat}(h:SumInv x y os i 0)(hx:x.length≤i)(hy:y.length≤i):wval os=wval x+wval y∧∀ w∈os,w<BB:=by
 obtain⟨h1,h2,h3,h4⟩:=h
 rw[List.take_of_length_le hx,List.take_of_length_le hy]at h4
 exact⟨by omega,h2⟩
open Go.RowKit in
theorem Rd.gen {k:IntKind}{w:World}{v:Value}{xs:List Nat}(h:Rd k w v xs):∃ p c,v=.slice p xs.length c∧∀ i,i<xs.length→∃ b o,p=some ⟨b,o,none⟩∧b<w.heap.size∧w.cell? ⟨b,o+i,none⟩=some (.int k ((xs.getD i 0:Nat):Int)):=by
 rcases h with⟨rfl,rfl⟩|⟨b,o,c,rfl,_,_,hb,hc⟩
 · exact⟨none,0,rfl,fun i hi=>by simp at hi⟩
 · exact⟨some ⟨b,o,none⟩,c,rfl,fun i hi=>⟨b,o,rfl,hb,hc i hi⟩⟩
end Go.Gb
namespace Go.Proofs.YthjmjlfnpnbonaaGreatDoor
open Go.RowKit Go.Gb
theorem RPlus_any (v1 v2:Value)(a b:Nat)(hla:(digs a).length≤100000)(hlb:(digs b).length≤100000)(w:World)(h1:Rd .u32 w v1 (digs a))(h2:Rd .u32 w v2 (digs b)) :
 Calls Tryz.prog 98 #[v1,v2] w fun e w'=>∃ v,e=.returned v∧Own .u32 89 w.heap.size w' v (digs (a+b))∧Below w.heap.size w w':=by
 obtain⟨i0,hi,hz0,hz1,hz2⟩:=info_parts Tryz.info89
 obtain⟨p1,c1,rfl,r1⟩:=h1.gen
 obtain⟨p2,c2,rfl,r2⟩:=h2.gen
 have hx:=digs_lt a
 have hy:=digs_lt b
 have hva:=wval_digs a
 have hvb:=wval_digs b
 generalize digs a=xs at *
 generalize digs b=ys at *
 have HR1:=hid r1
 have HR2:=hid r2
 have HX:=hid hx
 have HY:=hid hy
 have HVA:=hid hva
 have HVB:=hid hvb
 have HO0:=hid (World.ownsRow_nil w w.heap.size 89 1)
 clear h1 h2 r1 r2 hx hy hva hvb
 go_enter Tryz.func98,Tryz.ntmps98
 go_wp2
 go_loopw [5,6,7,8] (fun v cc ii _ wr=>∃ (i k:Nat) (os:List Nat),i≤xs.length+ys.length+1∧ii=.int .i64 i∧cc=.int .u32 (k:Int)∧(k=0∨i≤xs.length∨i≤ys.length)∧os.length=i∧Hid (wr.ownsRow w.heap.size 89 1 v os.length (cls .u32 os))∧Hid (SumInv xs ys os i k)∧Hid (Below w.heap.size w wr)) (fun _ _ ii _ _=>xs.length+ys.length+2-(intOf ii).toNat)
 case atStart=>exact⟨0,0,[],by omega,rfl,rfl,Or.inl rfl,rfl,HO0,SumInv.start xs ys,Below.refl _ _⟩
 case round =>
  obtain⟨i,k,os,hiM,rfl,rfl,hki,hol,ho,hI,hn⟩:=hrel
  have hk1:k≤1:=hI.out.2.2.1
  have hst:=hI.out.step (getD_ltB HX.out i) (getD_ltB HY.out i)
  have i1:(i:Int)≤200001:=by omega
  have hol2:os.length≤200001:=by omega
  by_cases hxi:i<xs.length
  · by_cases hyi:i<ys.length
    · obtain⟨b1,o1,rfl,hb1,hc1⟩:=HR1.out i hxi
      have hcx:=(hn.out.cell (p:=⟨b1,o1+i,none⟩) hb1).trans hc1
      have hxB:=getD_ltB HX.out i
      have j1:(i:Int)<(xs.length:Int):=by omega
      have d1:decide ((i:Int)<(xs.length:Int))=true:=decide_eq_true j1
      obtain⟨b2,o2,rfl,hb2,hc2⟩:=HR2.out i hyi
      have hcy:=(hn.out.cell (p:=⟨b2,o2+i,none⟩) hb2).trans hc2
      have hyB:=getD_ltB HY.out i
      have j2:(i:Int)<(ys.length:Int):=by omega
      have d2:decide ((i:Int)<(ys.length:Int))=true:=decide_eq_true j2
      have HST:=hid hst
      clear hst hI hb1 hc1 hb2 hc2
      generalize xs.getD i 0=x at *
      rw[BB_eq]at hxB
      have hx9:(x:Int)≤999999999:=by omega
      generalize ys.getD i 0=y at *
      rw[BB_eq]at hyB
      have hy9:(y:Int)≤999999999:=by omega
      obtain⟨lo,hlo⟩:∃ lo:Nat,lo=(x+y+k)%BB:=⟨_,rfl⟩
      obtain⟨hc,hhc⟩:∃ hc:Nat,hc=(x+y+k) / BB:=⟨_,rfl⟩
      have HST2:=hid (show SumInv xs ys (os++[lo]) (i+1) hc by rw[hlo,hhc];exact HST.out)
      have hmod:((k:Int)+(x:Int)+(y:Int))%1000000000=(lo:Int):=by rw[hlo,BB_eq];omega
      have hdiv:((k:Int)+(x:Int)+(y:Int)) / 1000000000=(hc:Int):=by rw[hhc,BB_eq];omega
      have hk9:(k:Int)≤1:=by omega
      clear hlo hhc HST hxB hyB hk1
      go_wp2_with (at_builtin;refine wpList_append_own _ rfl _ _ 49 rfl w.heap.size 89 i0 (.int .u32 0) 1 4 Tryz.underlying49 hi hz0 hz1 hz2 rfl (by decide) _ _ _ rfl (ho.out.alloc _) ⟨wr.heap.size,0,none⟩ 1 1 [.int .u32 (lo:Int)] rfl rfl (cells_one _ _ _) (by intro u hu;simp at hu;subst hu;rfl) (by unfold maxLen;omega) (by omega) (by have:=hn.out.size;simp;omega) ?_)
      intro v' w1 hown' hgrow _
      have HO:=hid hown'
      have HN:=hid ((hn.out.alloc hn.out.size _).grown hgrow (by have:=hn.out.size;simp;omega) (fun k hk=>(ho.out.lt k hk).1))
      clear hown' hgrow
      go_wp2
      go_roundw
      case rel=>exact⟨i+1,hc,os++[lo],by omega,by go_num,by first|rfl|exact val_int1 hdiv|simp,Or.inr (Or.inl (by omega)),by simp[hol],by have:=HO.out;rw[cls_append,List.length_append,hol];exact this,HST2,HN⟩
      case measure=>simp[intOf];omega
    · obtain⟨b1,o1,rfl,hb1,hc1⟩:=HR1.out i hxi
      have hcx:=(hn.out.cell (p:=⟨b1,o1+i,none⟩) hb1).trans hc1
      have hxB:=getD_ltB HX.out i
      have j1:(i:Int)<(xs.length:Int):=by omega
      have d1:decide ((i:Int)<(xs.length:Int))=true:=decide_eq_true j1
      have d2:decide ((i:Int)<(ys.length:Int))=false:=decide_eq_false (by omega)
      rw[getD_ge (xs:=ys) (by omega)]at hst
      have HST:=hid hst
      clear hst hI hb1 hc1
      generalize xs.getD i 0=x at *
      rw[BB_eq]at hxB
      have hx9:(x:Int)≤999999999:=by omega
      obtain⟨lo,hlo⟩:∃ lo:Nat,lo=(x+0+k)%BB:=⟨_,rfl⟩
      obtain⟨hc,hhc⟩:∃ hc:Nat,hc=(x+0+k) / BB:=⟨_,rfl⟩
      have HST2:=hid (show SumInv xs ys (os++[lo]) (i+1) hc by rw[hlo,hhc];exact HST.out)
      have hmod:((k:Int)+(x:Int))%1000000000=(lo:Int):=by rw[hlo,BB_eq];omega
      have hdiv:((k:Int)+(x:Int)) / 1000000000=(hc:Int):=by rw[hhc,BB_eq];omega
      have hk9:(k:Int)≤1:=by omega
      clear hlo hhc HST hxB hk1
      go_wp2_with (at_builtin;refine wpList_append_own _ rfl _ _ 49 rfl w.heap.size 89 i0 (.int .u32 0) 1 4 Tryz.underlying49 hi hz0 hz1 hz2 rfl (by decide) _ _ _ rfl (ho.out.alloc _) ⟨wr.heap.size,0,none⟩ 1 1 [.int .u32 (lo:Int)] rfl rfl (cells_one _ _ _) (by intro u hu;simp at hu;subst hu;rfl) (by unfold maxLen;omega) (by omega) (by have:=hn.out.size;simp;omega) ?_)
      intro v' w1 hown' hgrow _
      have HO:=hid hown'
      have HN:=hid ((hn.out.alloc hn.out.size _).grown hgrow (by have:=hn.out.size;simp;omega) (fun k hk=>(ho.out.lt k hk).1))
      clear hown' hgrow
      go_wp2
      go_roundw
      case rel=>exact⟨i+1,hc,os++[lo],by omega,by go_num,by first|rfl|exact val_int1 hdiv|simp,Or.inr (Or.inl (by omega)),by simp[hol],by have:=HO.out;rw[cls_append,List.length_append,hol];exact this,HST2,HN⟩
      case measure=>simp[intOf];omega
  · by_cases hyi:i<ys.length
    · have d1:decide ((i:Int)<(xs.length:Int))=false:=decide_eq_false (by omega)
      rw[getD_ge (xs:=xs) (by omega)]at hst
      obtain⟨b2,o2,rfl,hb2,hc2⟩:=HR2.out i hyi
      have hcy:=(hn.out.cell (p:=⟨b2,o2+i,none⟩) hb2).trans hc2
      have hyB:=getD_ltB HY.out i
      have j2:(i:Int)<(ys.length:Int):=by omega
      have d2:decide ((i:Int)<(ys.length:Int))=true:=decide_eq_true j2
      have HST:=hid hst
      clear hst hI hb2 hc2
      generalize ys.getD i 0=y at *
      rw[BB_eq]at hyB
      have hy9:(y:Int)≤999999999:=by omega
      obtain⟨lo,hlo⟩:∃ lo:Nat,lo=(0+y+k)%BB:=⟨_,rfl⟩
      obtain⟨hc,hhc⟩:∃ hc:Nat,hc=(0+y+k) / BB:=⟨_,rfl⟩
      have HST2:=hid (show SumInv xs ys (os++[lo]) (i+1) hc by rw[hlo,hhc];exact HST.out)
      have hmod:((k:Int)+(y:Int))%1000000000=(lo:Int):=by rw[hlo,BB_eq];omega
      have hdiv:((k:Int)+(y:Int)) / 1000000000=(hc:Int):=by rw[hhc,BB_eq];omega
      have hk9:(k:Int)≤1:=by omega
      clear hlo hhc HST hyB hk1
      go_wp2_with (at_builtin;refine wpList_append_own _ rfl _ _ 49 rfl w.heap.size 89 i0 (.int .u32 0) 1 4 Tryz.underlying49 hi hz0 hz1 hz2 rfl (by decide) _ _ _ rfl (ho.out.alloc _) ⟨wr.heap.size,0,none⟩ 1 1 [.int .u32 (lo:Int)] rfl rfl (cells_one _ _ _) (by intro u hu;simp at hu;subst hu;rfl) (by unfold maxLen;omega) (by omega) (by have:=hn.out.size;simp;omega) ?_)
      intro v' w1 hown' hgrow _
      have HO:=hid hown'
      have HN:=hid ((hn.out.alloc hn.out.size _).grown hgrow (by have:=hn.out.size;simp;omega) (fun k hk=>(ho.out.lt k hk).1))
      clear hown' hgrow
      go_wp2
      go_roundw
      case rel=>exact⟨i+1,hc,os++[lo],by omega,by go_num,by first|rfl|exact val_int1 hdiv|simp,Or.inr (Or.inr (by omega)),by simp[hol],by have:=HO.out;rw[cls_append,List.length_append,hol];exact this,HST2,HN⟩
      case measure=>simp[intOf];omega
    · by_cases hk0:k=0
      · subst hk0
        have d1:decide ((i:Int)<(xs.length:Int))=false:=decide_eq_false (by omega)
        have d2:decide ((i:Int)<(ys.length:Int))=false:=decide_eq_false (by omega)
        obtain⟨hv,hB⟩:=hI.out.end0 (by omega) (by omega)
        have htr:=rtrim_own 89 w.heap.size _ os hB wr ho.out
        rw[hv,HVA.out,HVB.out]at htr
        have HTR:=hid htr
        clear hst hv hB htr hI
        go_wp2_with fail
        refine HTR.out.mono ?_
        rintro e w2 ⟨v',rfl,hown,rfl⟩
        go_wp2
        go_ret
        exact⟨v',rfl,hown,hn.out⟩
      · have d1:decide ((i:Int)<(xs.length:Int))=false:=decide_eq_false (by omega)
        rw[getD_ge (xs:=xs) (by omega)]at hst
        have d2:decide ((i:Int)<(ys.length:Int))=false:=decide_eq_false (by omega)
        rw[getD_ge (xs:=ys) (by omega)]at hst
        obtain rfl:k=1:=by omega
        have HST:=hid hst
        clear hst hI
        obtain⟨lo,hlo⟩:∃ lo:Nat,lo=(0+0+1)%BB:=⟨_,rfl⟩
        obtain⟨hc,hhc⟩:∃ hc:Nat,hc=(0+0+1) / BB:=⟨_,rfl⟩
        have HST2:=hid (show SumInv xs ys (os++[lo]) (i+1) hc by rw[hlo,hhc];exact HST.out)
        have hlo1:lo=1:=by rw[hlo,BB_eq]
        have hhc0:hc=0:=by rw[hhc,BB_eq]
        subst hlo1 hhc0
        clear hlo hhc HST
        go_wp2_with (at_builtin;refine wpList_append_own _ rfl _ _ 49 rfl w.heap.size 89 i0 (.int .u32 0) 1 4 Tryz.underlying49 hi hz0 hz1 hz2 rfl (by decide) _ _ _ rfl (ho.out.alloc _) ⟨wr.heap.size,0,none⟩ 1 1 [.int .u32 1] rfl rfl (cells_one _ _ _) (by intro u hu;simp at hu;subst hu;rfl) (by unfold maxLen;omega) (by omega) (by have:=hn.out.size;simp;omega) ?_)
        intro v' w1 hown' hgrow _
        have HO:=hid hown'
        have HN:=hid ((hn.out.alloc hn.out.size _).grown hgrow (by have:=hn.out.size;simp;omega) (fun k hk=>(ho.out.lt k hk).1))
        clear hown' hgrow
        go_wp2
        go_roundw
        case rel=>exact⟨i+1,0,os++[1],by omega,by go_num,by first|rfl|exact val_int1 hdiv|simp,Or.inl rfl,by simp[hol],by have:=HO.out;rw[cls_append,List.length_append,hol];exact this,HST2,HN⟩
        case measure=>simp[intOf];omega
end Go.Proofs.YthjmjlfnpnbonaaGreatDoor
set_option maxRecDepth 100000
set_option maxHeartbeats 20000000
open Go.Lib (hid)
namespace Go.Proofs.YthjmjlfnpnbonaaGreatDoor
open Go.RowKit Go.Gb
theorem RMinus_any (v1 v2:Value)(a b:Nat)(hab:b≤a)(hla:(digs a).length≤100000)(w:World)(h1:Rd .u32 w v1 (digs a))(h2:Rd .u32 w v2 (digs b)) :
 Calls Tryz.prog 99 #[v1,v2] w fun e w'=>∃ v,e=.returned v∧Own .u32 89 w.heap.size w' v (digs (a-b))∧Below w.heap.size w w':=by
 obtain⟨i0,hi,hz0,hz1,hz2⟩:=info_parts Tryz.info89
 have hlb:=digs_length_mono hab
 obtain⟨p1,c1,rfl,r1⟩:=h1.gen
 obtain⟨p2,c2,rfl,r2⟩:=h2.gen
 have hx:=digs_lt a
 have hy:=digs_lt b
 have hva:=wval_digs a
 have hvb:=wval_digs b
 generalize digs a=xs at *
 generalize digs b=ys at *
 have HR1:=hid r1
 have HR2:=hid r2
 have HX:=hid hx
 have HY:=hid hy
 have HVA:=hid hva
 have HVB:=hid hvb
 have HAB:=hid hab
 have HO0:=hid (World.ownsRow_nil w w.heap.size 89 1)
 clear h1 h2 r1 r2 hx hy hva hvb hab
 go_enter Tryz.func99,Tryz.ntmps99
 go_wp2
 go_loopw [5,6,7,8] (fun v cc ii _ wr=>∃ (i k:Nat) (os:List Nat),i≤xs.length∧ii=.int .i64 i∧cc=.int .i64 (k:Int)∧os.length=i∧Hid (wr.ownsRow w.heap.size 89 1 v os.length (cls .u32 os))∧Hid (DifInv xs ys os i k)∧Hid (Below w.heap.size w wr)) (fun _ _ ii _ _=>xs.length-(intOf ii).toNat)
 case atStart=>exact⟨0,0,[],by omega,rfl,rfl,rfl,HO0,DifInv.start xs ys,Below.refl _ _⟩
 case round =>
  obtain⟨i,k,os,hiM,rfl,rfl,hol,ho,hI,hn⟩:=hrel
  have hk1:k≤1:=hI.out.2.2.1
  have hk9:(k:Int)≤1:=by omega
  by_cases hxi:i<xs.length
  · obtain⟨b1,o1,rfl,hb1,hc1⟩:=HR1.out i hxi
    have hcx:=(hn.out.cell (p:=⟨b1,o1+i,none⟩) hb1).trans hc1
    have hxB:=getD_ltB HX.out i
    have hyB:=getD_ltB HY.out i
    have j1:(i:Int)<(xs.length:Int):=by omega
    have d1:decide ((i:Int)<(xs.length:Int))=true:=decide_eq_true j1
    have hsm:=hI.out.small hxB
    have hbg:=hI.out.big hyB
    have hol2:os.length≤100000:=by omega
    have i1:(i:Int)≤100000:=by omega
    clear hb1 hc1 hI
    by_cases hyi:i<ys.length
    · obtain⟨b2,o2,rfl,hb2,hc2⟩:=HR2.out i hyi
      have hcy:=(hn.out.cell (p:=⟨b2,o2+i,none⟩) hb2).trans hc2
      have j2:(i:Int)<(ys.length:Int):=by omega
      have d2:decide ((i:Int)<(ys.length:Int))=true:=decide_eq_true j2
      clear hb2 hc2
      generalize xs.getD i 0=x at *
      generalize ys.getD i 0=y at *
      rw[BB_eq]at hxB hyB
      have hx9:(x:Int)≤999999999:=by omega
      have hy9:(y:Int)≤999999999:=by omega
      clear hxB hyB
      by_cases hng:x<y+k
      · obtain⟨lo,hlo⟩:∃ lo:Nat,lo=x+BB-(y+k):=⟨_,rfl⟩
        have HST:=hid (show DifInv xs ys (os++[lo]) (i+1) 1 by rw[hlo];exact hbg (by omega))
        have hval:(x:Int)-(k:Int)-(y:Int)+1000000000=(lo:Int):=by rw[hlo,BB_eq];omega
        have hneg:(x:Int)-(k:Int)-(y:Int)<0:=by omega
        have hlo9:(lo:Int)≤999999999:=by rw[BB_eq]at hlo;omega
        clear hlo hsm hbg hng
        go_wp2_with (at_builtin;refine wpList_append_own _ rfl _ _ 49 rfl w.heap.size 89 i0 (.int .u32 0) 1 4 Tryz.underlying49 hi hz0 hz1 hz2 rfl (by decide) _ _ _ rfl (ho.out.alloc _) ⟨wr.heap.size,0,none⟩ 1 1 [.int .u32 (lo:Int)] rfl rfl (cells_one _ _ _) (by intro u hu;simp at hu;subst hu;rfl) (by unfold maxLen;omega) (by omega) (by have:=hn.out.size;simp;omega) ?_)
        intro v' w1 hown' hgrow _
        have HO:=hid hown'
        have HN:=hid ((hn.out.alloc hn.out.size _).grown hgrow (by have:=hn.out.size;simp;omega) (fun k hk=>(ho.out.lt k hk).1))
        clear hown' hgrow
        go_wp2
        go_roundw
        case rel=>exact⟨i+1,1,os++[lo],by omega,by go_num,rfl,by simp[hol],by have:=HO.out;rw[cls_append,List.length_append,hol];exact this,HST,HN⟩
        case measure=>simp[intOf];omega
      · obtain⟨lo,hlo⟩:∃ lo:Nat,lo=x-(y+k):=⟨_,rfl⟩
        have HST:=hid (show DifInv xs ys (os++[lo]) (i+1) 0 by rw[hlo];exact hsm (by omega))
        have hval:(x:Int)-(k:Int)-(y:Int)=(lo:Int):=by rw[hlo];omega
        have hneg:decide ((lo:Int)<0)=false:=decide_eq_false (by omega)
        have hlo9:(lo:Int)≤999999999:=by omega
        clear hlo hsm hbg hng
        go_wp2_with (at_builtin;refine wpList_append_own _ rfl _ _ 49 rfl w.heap.size 89 i0 (.int .u32 0) 1 4 Tryz.underlying49 hi hz0 hz1 hz2 rfl (by decide) _ _ _ rfl (ho.out.alloc _) ⟨wr.heap.size,0,none⟩ 1 1 [.int .u32 (lo:Int)] rfl rfl (cells_one _ _ _) (by intro u hu;simp at hu;subst hu;rfl) (by unfold maxLen;omega) (by omega) (by have:=hn.out.size;simp;omega) ?_)
        intro v' w1 hown' hgrow _
        have HO:=hid hown'
        have HN:=hid ((hn.out.alloc hn.out.size _).grown hgrow (by have:=hn.out.size;simp;omega) (fun k hk=>(ho.out.lt k hk).1))
        clear hown' hgrow
        go_wp2
        go_roundw
        case rel=>exact⟨i+1,0,os++[lo],by omega,by go_num,rfl,by simp[hol],by have:=HO.out;rw[cls_append,List.length_append,hol];exact this,HST,HN⟩
        case measure=>simp[intOf];omega
    · have d2:decide ((i:Int)<(ys.length:Int))=false:=decide_eq_false (by omega)
      rw[getD_ge (xs:=ys) (by omega)]at hsm hbg
      clear hyB
      generalize xs.getD i 0=x at *
      rw[BB_eq]at hxB
      have hx9:(x:Int)≤999999999:=by omega
      clear hxB
      by_cases hng:x<0+k
      · obtain⟨lo,hlo⟩:∃ lo:Nat,lo=x+BB-(0+k):=⟨_,rfl⟩
        have HST:=hid (show DifInv xs ys (os++[lo]) (i+1) 1 by rw[hlo];exact hbg (by omega))
        have hval:(x:Int)-(k:Int)+1000000000=(lo:Int):=by rw[hlo,BB_eq];omega
        have hneg:(x:Int)-(k:Int)<0:=by omega
        have hlo9:(lo:Int)≤999999999:=by rw[BB_eq]at hlo;omega
        clear hlo hsm hbg hng
        go_wp2_with (at_builtin;refine wpList_append_own _ rfl _ _ 49 rfl w.heap.size 89 i0 (.int .u32 0) 1 4 Tryz.underlying49 hi hz0 hz1 hz2 rfl (by decide) _ _ _ rfl (ho.out.alloc _) ⟨wr.heap.size,0,none⟩ 1 1 [.int .u32 (lo:Int)] rfl rfl (cells_one _ _ _) (by intro u hu;simp at hu;subst hu;rfl) (by unfold maxLen;omega) (by omega) (by have:=hn.out.size;simp;omega) ?_)
        intro v' w1 hown' hgrow _
        have HO:=hid hown'
        have HN:=hid ((hn.out.alloc hn.out.size _).grown hgrow (by have:=hn.out.size;simp;omega) (fun k hk=>(ho.out.lt k hk).1))
        clear hown' hgrow
        go_wp2
        go_roundw
        case rel=>exact⟨i+1,1,os++[lo],by omega,by go_num,rfl,by simp[hol],by have:=HO.out;rw[cls_append,List.length_append,hol];exact this,HST,HN⟩
        case measure=>simp[intOf];omega
      · obtain⟨lo,hlo⟩:∃ lo:Nat,lo=x-(0+k):=⟨_,rfl⟩
        have HST:=hid (show DifInv xs ys (os++[lo]) (i+1) 0 by rw[hlo];exact hsm (by omega))
        have hval:(x:Int)-(k:Int)=(lo:Int):=by rw[hlo];omega
        have hneg:decide ((lo:Int)<0)=false:=decide_eq_false (by omega)
        have hlo9:(lo:Int)≤999999999:=by omega
        clear hlo hsm hbg hng
        go_wp2_with (at_builtin;refine wpList_append_own _ rfl _ _ 49 rfl w.heap.size 89 i0 (.int .u32 0) 1 4 Tryz.underlying49 hi hz0 hz1 hz2 rfl (by decide) _ _ _ rfl (ho.out.alloc _) ⟨wr.heap.size,0,none⟩ 1 1 [.int .u32 (lo:Int)] rfl rfl (cells_one _ _ _) (by intro u hu;simp at hu;subst hu;rfl) (by unfold maxLen;omega) (by omega) (by have:=hn.out.size;simp;omega) ?_)
        intro v' w1 hown' hgrow _
        have HO:=hid hown'
        have HN:=hid ((hn.out.alloc hn.out.size _).grown hgrow (by have:=hn.out.size;simp;omega) (fun k hk=>(ho.out.lt k hk).1))
        clear hown' hgrow
        go_wp2
        go_roundw
        case rel=>exact⟨i+1,0,os++[lo],by omega,by go_num,rfl,by simp[hol],by have:=HO.out;rw[cls_append,List.length_append,hol];exact this,HST,HN⟩
        case measure=>simp[intOf];omega
  · have d1:decide ((i:Int)<(xs.length:Int))=false:=decide_eq_false (by omega)
    obtain rfl:i=xs.length:=by omega
    obtain⟨hv,hB⟩:=hI.out.done hlb (by rw[HVA.out,HVB.out];exact HAB.out)
    have htr:=rtrim_own 89 w.heap.size _ os hB wr ho.out
    rw[hv,HVA.out,HVB.out]at htr
    have HTR:=hid htr
    clear hv hB htr hI
    go_wp2_with fail
    refine HTR.out.mono ?_
    rintro e w2 ⟨v',rfl,hown,rfl⟩
    go_wp2
    go_ret
    exact⟨v',rfl,hown,hn.out⟩
end Go.Proofs.YthjmjlfnpnbonaaGreatDoor
namespace Go.Gb
theorem wval_inj {xs ys:List Nat}(hl:xs.length=ys.length)(hx:∀ w∈xs,w<BB)(hy:∀ w∈ys,w<BB)(h:wval xs=wval ys):xs=ys:=by
 induction xs generalizing ys with
 | nil=>exact(List.length_eq_zero_iff.1 hl.symm).symm
 | cons x xs ih =>
   match ys,hl with
   | y :: ys,hl =>
     rw[wval,wval]at h
     have h1:=hx x (by simp)
     have h2:=hy y (by simp)
     have e:=congrArg (· % BB) h
     simp only[Nat.add_mul_mod_self_left,Nat.mod_eq_of_lt h1,Nat.mod_eq_of_lt h2]at e
     subst e
     have e2:BB*wval xs=BB*wval ys:=by omega
     rw[ih (by simpa using hl) (fun w hw=>hx w (by simp[hw])) (fun w hw=>hy w (by simp[hw])) (Nat.eq_of_mul_eq_mul_left BB_pos e2)]
theorem digs_one {s:Nat}(h0:0<s)(h:s<BB):digs s=[s]:=by
 rw[digs_pos (by omega),Nat.div_eq_of_lt h,digs_zero,Nat.mod_eq_of_lt h]
theorem scaled {b s n y:Nat}(hb:b≠0)(hn:(digs b).length=n)(hy:y=(digs b).getD (n-1) 0)(hs:s=BB / (y+1)) :
 1≤y∧y<BB∧1≤s∧s<BB∧(digs (b*s)).length=n∧b*s<BB^n∧500000000≤(digs (b*s)).getD (n-1) 0∧BB^(n-1)≤b:=by
 have hne:digs b≠[]:=by rw[digs_pos hb];simp
 have hn0:0<n:=by rw[← hn];exact List.length_pos_iff.2 hne
 have hyl:y=(digs b).getLast hne:=by rw[hy,← hn,getD_of_lt (by omega),List.getLast_eq_getElem]
 have hy1:1≤y:=by have:=digs_last b hne;rw[← hyl]at this;omega
 have hy2:y<BB:=by rw[hy];exact digs_lt b _ (mem_getD (by omega))
 obtain⟨k1,k2,k3,k4⟩:=scale_half hy1 hy2
 rw[← hs]at k1 k2 k3 k4
 obtain⟨m,rfl⟩:∃ m,n=m+1:=⟨n-1,by omega⟩
 rw[show m+1-1=m by omega]at *
 have eb:b=wval ((digs b).take m)+BB^m*y:=by
  conv=>lhs;rw[← wval_digs b]
  rw[← List.take_of_length_le (show(digs b).length≤m+1 by omega),take_succ_any,List.take_take,Nat.min_eq_left (by omega),hy]
 have lb:=wval_le_of_len (n:=m) (xs:=(digs b).take m) (fun w hw=>digs_lt b w (List.mem_of_mem_take hw)) (by simp;omega)
 have hblo:BB^m*y≤b:=by omega
 have hbhi:b<BB^m*(y+1):=by rw[Nat.mul_add,Nat.mul_one];omega
 have hlt:b*s<BB^(m+1):=by
  have h1:b*s<BB^m*(y+1)*s:=Nat.mul_lt_mul_of_pos_right hbhi (by omega)
  have h2:BB^m*(y+1)*s≤BB^m*BB:=by rw[Nat.mul_assoc];exact Nat.mul_le_mul_left _ k2
  rw[Nat.pow_succ];omega
 have hge:BB^m*(y*s)≤b*s:=by rw[← Nat.mul_assoc];exact Nat.mul_le_mul_right _ hblo
 have hpow:BB^m≤b:=by
  have:BB^m*1≤BB^m*y:=Nat.mul_le_mul_left _ hy1
  omega
 have hl1:=digs_length_le hlt
 have hbs:b≤b*s:=by have:=Nat.mul_le_mul_left b k3;omega
 have hl2:=digs_length_mono hbs
 have hlen:(digs (b*s)).length=m+1:=by omega
 refine⟨hy1,hy2,k3,k4,hlen,hlt,?_,hpow⟩
 have ev:b*s=wval ((digs (b*s)).take m)+BB^m*(digs (b*s)).getD m 0:=by
  conv=>lhs;rw[← wval_digs (b*s)]
  rw[← List.take_of_length_le (show(digs (b*s)).length≤m+1 by omega),take_succ_any,List.take_take,Nat.min_eq_left (by omega),List.take_of_length_le (show(digs (b*s)).length≤m+1 by omega)]
 have lv:=wval_le_of_len (n:=m) (xs:=(digs (b*s)).take m) (fun w hw=>digs_lt _ w (List.mem_of_mem_take hw)) (by simp;omega)
 have h3:BB^m*(y*s)<BB^m*((digs (b*s)).getD m 0+1):=by rw[Nat.mul_add,Nat.mul_one];omega
 have h4:=Nat.lt_of_mul_lt_mul_left h3
 omega
theorem KI.start {a b s m n:Nat}(hm:(digs a).length=m)(hn0:0<n)(hnm:n≤m)(hb:BB^(n-1)≤b)(hs:0<s)(hsB:s<BB) :
 KI (a*s) (b*s) (m+1) (digs (a*s)++List.replicate (m+1-(digs (a*s)).length) 0) [] (m-n+1)∧(digs (a*s)).length≤m+1:=by
 have ha:a<BB^m:=by rw[← hm];exact lt_pow_digs a
 have hR:a*s<BB^(m+1):=by rw[Nat.pow_succ];exact Nat.mul_lt_mul_of_lt_of_le ha (Nat.le_of_lt hsB) BB_pos
 have hl:=digs_length_le hR
 generalize hus:digs (a*s)++List.replicate (m+1-(digs (a*s)).length) 0=us
 have hul:us.length=m+1:=by rw[← hus];simp;omega
 have huw:wval us=a*s:=by rw[← hus,wval_zeros,wval_digs]
 have huB:∀ w∈us,w<BB:=by
  intro w hw
  rw[← hus]at hw
  rcases List.mem_append.1 hw with hw|hw
  · exact digs_lt _ w hw
  · rw[(List.mem_replicate.1 hw).2];exact BB_pos
 refine⟨⟨hul,huB,by simp,?_,by simp[wval,huw]⟩,hl⟩
 have hsp:=wval_split us (m-n+1) (by omega)
 rw[huw]at hsp
 have h1:BB^(m-n+1)*wval (us.drop (m-n+1))<BB^(m-n+1)*(b*s):=by
  have e1:BB^m*s=BB^(m-n+1)*(BB^(n-1)*s):=by rw[← Nat.mul_assoc,← Nat.pow_add,show m-n+1+(n-1)=m by omega]
  have e2:a*s<BB^m*s:=Nat.mul_lt_mul_of_pos_right ha hs
  have e3:BB^(n-1)*s≤b*s:=Nat.mul_le_mul_right _ hb
  have e4:BB^(m-n+1)*(BB^(n-1)*s)≤BB^(m-n+1)*(b*s):=Nat.mul_le_mul_left _ e3
  omega
 exact Nat.lt_of_mul_lt_mul_left h1
theorem top_le {xs vs:List Nat}{n:Nat}(hn:0<n)(hxl:xs.length=n+1)(hvl:vs.length=n)(hv:∀ v∈vs,v<BB)(hlt:wval xs<BB*wval vs):xs.getD n 0≤vs.getD (n-1) 0:=by
 obtain⟨m,rfl⟩:∃ m,n=m+1:=⟨n-1,by omega⟩
 rw[show m+1-1=m by omega]
 have e1:wval xs=wval (xs.take (m+1))+BB^(m+1)*xs.getD (m+1) 0:=by rw[← take_succ_any,List.take_of_length_le (by omega)]
 have e2:wval vs=wval (vs.take m)+BB^m*vs.getD m 0:=by rw[← take_succ_any,List.take_of_length_le (by omega)]
 have lv:=wval_le_of_len (n:=m) (xs:=vs.take m) (fun w hw=>hv w (List.mem_of_mem_take hw)) (by simp;omega)
 have h3:wval vs<BB^m*(vs.getD m 0+1):=by rw[Nat.mul_add,Nat.mul_one];omega
 have h4:BB*wval vs<BB*(BB^m*(vs.getD m 0+1)):=Nat.mul_lt_mul_of_pos_left h3 BB_pos
 have h5:BB*(BB^m*(vs.getD m 0+1))=BB^(m+1)*(vs.getD m 0+1):=by rw[← Nat.mul_assoc,Nat.pow_succ,Nat.mul_comm BB]
 have h6:BB^(m+1)*xs.getD (m+1) 0<BB^(m+1)*(vs.getD m 0+1):=by omega
 have:=Nat.lt_of_mul_lt_mul_left h6
 omega
theorem getD_mid {us:List Nat}{j n i:Nat}(h:i<n):((us.drop j).take n).getD i 0=us.getD (j+i) 0:=by
 simp[List.getD,h,List.getElem?_drop]
theorem part_split (us:List Nat)(j n:Nat):us=us.take j++((us.drop j).take n++us.drop (j+n)):=by
 conv=>lhs;rw[← List.take_append_drop j us,← List.take_append_drop n (us.drop j),List.drop_drop]
theorem digs_cells {us:List Nat}(hB:∀ w∈us,w<BB){i:Nat}(h:i<(digs (wval us)).length):(digs (wval us)).getD i 0=us.getD i 0∧i<us.length:=by
 have hlen:(digs (wval us)).length≤us.length:=digs_length_le (wval_lt us hB)
 refine⟨?_,by omega⟩
 have e:wval us=wval (digs (wval us)++List.replicate (us.length-(digs (wval us)).length) 0):=by rw[wval_zeros,wval_digs]
 have h1:us=digs (wval us)++List.replicate (us.length-(digs (wval us)).length) 0:=by
  refine wval_inj (by simp;omega) hB ?_ e
  intro w hw
  rcases List.mem_append.1 hw with hw|hw
  · exact digs_lt _ w hw
  · rw[(List.mem_replicate.1 hw).2];exact BB_pos
 conv=>rhs;rw[h1]
 simp[List.getD,List.getElem?_append_left h]
end Go.Gb
namespace Go.Proofs.YthjmjlfnpnbonaaGreatDoor
open Go.RowKit Go.Gb
theorem splice_zeros {D:List Nat}{L:Nat}:splice (cls .u64 (List.replicate L 0)) 0 (cls .u64 D)=cls .u64 (D++List.replicate (L-D.length) 0):=by
 unfold splice
 rw[cls_append,cls_length]
 simp[cls]
end Go.Proofs.YthjmjlfnpnbonaaGreatDoor
