/- texts -/
import Derived.Test.YtoaeaiiabelhkaaGreatDoorMz16q
import Derived.Test.YtoaeaiiabelhkaaGreatDoorMz10q
open Go.Proofs.Tryz
set_option maxRecDepth 100000
set_option maxHeartbeats 20000000
open Go.Lib (hid)
namespace Go.Gb
theorem ky {xs:List Nat}{i:Nat}(h:xs.length≤i):xs.getD i 0=0:=by simp[List.getD,h]
theorem iy {xs:List Nat}(h:∀ x∈xs,x<BB)(i:Nat):xs.getD i 0<BB:=by
 by_cases hi:i<xs.length
 · exact h _ (bf hi)
 · rw[ky (by omega)];exact bN
theorem dm.end0 {x y os:List Nat}{i:Nat}(h:dm x y os i 0)(hx:x.length≤i)(hy:y.length≤i):ai os=ai x+ai y∧∀ w∈os,w<BB:=by
 obtain⟨h1,h2,h3,h4⟩:=h;rw[List.take_of_length_le hx,List.take_of_length_le hy]at h4;exact⟨by omega,h2⟩
open Go.RowKit in
theorem Rd.gen {k:IntKind}{w:World}{v:Value}{xs:List Nat}(h:Rd k w v xs):∃ p c,v=.slice p xs.length c∧∀ i,i<xs.length→∃ b o,p=some ⟨b,o,none⟩∧b<w.heap.size∧w.cell? ⟨b,o+i,none⟩=some (.int k ((xs.getD i 0:Nat):Int)):=by
 rcases h with⟨rfl,rfl⟩|⟨b,o,c,rfl,_,_,hb,hc⟩
 · exact⟨none,0,rfl,fun i hi=>by simp at hi⟩
 · exact⟨some ⟨b,o,none⟩,c,rfl,fun i hi=>⟨b,o,rfl,hb,hc i hi⟩⟩
end Go.Gb
namespace Go.Proofs.YtoaeaiiabelhkaaGreatDoor
open Go.RowKit Go.Gb
theorem z2h (v1 v2:Value)(a b:Nat)(hla:(ae a).length≤100000)(hlb:(ae b).length≤100000)(w:World)(h1:Rd .u32 w v1 (ae a))(h2:Rd .u32 w v2 (ae b)) :
 Calls Tryz.prog 133 #[v1,v2] w fun e w'=>∃ v,e=.returned v∧Gb.Own .u32 82 w.heap.size w' v (ae (a+b))∧Below w.heap.size w w':=by
 obtain⟨i0,hi,hz0,hz1,hz2⟩:=info_parts Tryz.info82;obtain⟨p1,c1,rfl,r1⟩:=h1.gen;obtain⟨p2,c2,rfl,r2⟩:=h2.gen;have hx:=aR a;have hy:=aR b;have hva:=az a;have hvb:=az b;generalize ae a=xs at *;generalize ae b=ys at *;obtain ⟨HR1,HR2,HX,HY,HVA,HVB,HO0⟩:=eB r1 r2 hx hy hva hvb (World.ownsRow_nil w w.heap.size 82 1);clear h1 h2 r1 r2 hx hy hva hvb;go_enter func133,ntmps133
 go_wp2;go_loopw [5,6,7,8] (fun v cc ii _ wr=>∃ (i k:Nat) (os:List Nat),i≤xs.length+ys.length+1∧ii=.int .i64 i∧cc=.int .u32 (k:Int)∧(k=0∨i≤xs.length∨i≤ys.length)∧os.length=i∧Hid (wr.ownsRow w.heap.size 82 1 v os.length (cls .u32 os))∧Hid (dm xs ys os i k)∧Hid (Below w.heap.size w wr)) (fun _ _ ii _ _=>xs.length+ys.length+2-(intOf ii).toNat)
 case atStart=>exact⟨0,0,[],by omega,rfl,rfl,Or.inl rfl,rfl,HO0,dm.start xs ys,Below.refl _ _⟩
 case round =>
  obtain⟨i,k,os,hiM,rfl,rfl,hki,hol,ho,hI,hn⟩:=hrel;have hk1:k≤1:=hI.o.2.2.1;have hst:=hI.o.step (iy HX.o i) (iy HY.o i);have i1:(i:Int)≤200001:=by omega
  have hol2:os.length≤200001:=by omega
  by_cases hxi:i<xs.length
  · by_cases hyi:i<ys.length
    · obtain⟨b1,o1,rfl,hb1,hc1⟩:=HR1.o i hxi
      have hcx:=(hn.o.cell (p:=⟨b1,o1+i,none⟩) hb1).trans hc1;have hxB:=iy HX.o i;have j1:(i:Int)<(xs.length:Int):=by omega
      have d1:decide ((i:Int)<(xs.length:Int))=true:=decide_eq_true j1;obtain⟨b2,o2,rfl,hb2,hc2⟩:=HR2.o i hyi;have hcy:=(hn.o.cell (p:=⟨b2,o2+i,none⟩) hb2).trans hc2;have hyB:=iy HY.o i;have j2:(i:Int)<(ys.length:Int):=by omega
      have d2:decide ((i:Int)<(ys.length:Int))=true:=decide_eq_true j2;have HST:=hid hst;clear hst hI hb1 hc1 hb2 hc2;generalize xs.getD i 0=x at *;rw[aG]at hxB;have hx9:(x:Int)≤999999999:=by omega
      generalize ys.getD i 0=y at *;rw[aG]at hyB;have hy9:(y:Int)≤999999999:=by omega
      obtain⟨lo,hlo⟩:∃ lo:Nat,lo=(x+y+k)%BB:=⟨_,rfl⟩;obtain⟨hc,hhc⟩:∃ hc:Nat,hc=(x+y+k) / BB:=⟨_,rfl⟩;have HST2:=hid (show dm xs ys (os++[lo]) (i+1) hc by rw[hlo,hhc];exact HST.o);have hmod:((k:Int)+(x:Int)+(y:Int))%1000000000=(lo:Int):=by rw[hlo,aG];omega
      have hdiv:((k:Int)+(x:Int)+(y:Int)) / 1000000000=(hc:Int):=by rw[hhc,aG];omega
      have hk9:(k:Int)≤1:=by omega
      clear hlo hhc HST hxB hyB hk1;go_wp2_with (at_builtin;refine wpList_append_own _ rfl _ _ 45 rfl w.heap.size 82 i0 (.int .u32 0) 1 4 underlying45 hi hz0 hz1 hz2 rfl (by decide) _ _ _ rfl (ho.o.alloc _) ⟨wr.heap.size,0,none⟩ 1 1 [.int .u32 (lo:Int)] rfl rfl (cells_one _ _ _) (by intro u hu;simp at hu;subst hu;rfl) (by unfold maxLen;omega) (by omega) (by have:=hn.o.size;simp;omega) ?_)
      intro v' w1 hown' hgrow _;have HO:=hid hown';have HN:=hid ((hn.o.alloc hn.o.size _).grown hgrow (by have:=hn.o.size;simp;omega) (fun k hk=>(ho.o.lt k hk).1));clear hown' hgrow;go_wp2;go_roundw
      case rel=>exact⟨i+1,hc,os++[lo],by omega,by go_num,by first|rfl|exact cZ hdiv|simp,Or.inr (Or.inl (by omega)),by simp[hol],by have:=HO.o;rw[cB,List.length_append,hol];exact this,HST2,HN⟩
      case measure=>simp[intOf];omega
    · obtain⟨b1,o1,rfl,hb1,hc1⟩:=HR1.o i hxi
      have hcx:=(hn.o.cell (p:=⟨b1,o1+i,none⟩) hb1).trans hc1;have hxB:=iy HX.o i;have j1:(i:Int)<(xs.length:Int):=by omega
      have d1:decide ((i:Int)<(xs.length:Int))=true:=decide_eq_true j1;have d2:decide ((i:Int)<(ys.length:Int))=false:=decide_eq_false (by omega);rw[ky (xs:=ys) (by omega)]at hst;have HST:=hid hst;clear hst hI hb1 hc1;generalize xs.getD i 0=x at *;rw[aG]at hxB;have hx9:(x:Int)≤999999999:=by omega
      obtain⟨lo,hlo⟩:∃ lo:Nat,lo=(x+0+k)%BB:=⟨_,rfl⟩;obtain⟨hc,hhc⟩:∃ hc:Nat,hc=(x+0+k) / BB:=⟨_,rfl⟩;have HST2:=hid (show dm xs ys (os++[lo]) (i+1) hc by rw[hlo,hhc];exact HST.o);have hmod:((k:Int)+(x:Int))%1000000000=(lo:Int):=by rw[hlo,aG];omega
      have hdiv:((k:Int)+(x:Int)) / 1000000000=(hc:Int):=by rw[hhc,aG];omega
      have hk9:(k:Int)≤1:=by omega
      clear hlo hhc HST hxB hk1;go_wp2_with (at_builtin;refine wpList_append_own _ rfl _ _ 45 rfl w.heap.size 82 i0 (.int .u32 0) 1 4 underlying45 hi hz0 hz1 hz2 rfl (by decide) _ _ _ rfl (ho.o.alloc _) ⟨wr.heap.size,0,none⟩ 1 1 [.int .u32 (lo:Int)] rfl rfl (cells_one _ _ _) (by intro u hu;simp at hu;subst hu;rfl) (by unfold maxLen;omega) (by omega) (by have:=hn.o.size;simp;omega) ?_)
      intro v' w1 hown' hgrow _;have HO:=hid hown';have HN:=hid ((hn.o.alloc hn.o.size _).grown hgrow (by have:=hn.o.size;simp;omega) (fun k hk=>(ho.o.lt k hk).1));clear hown' hgrow;go_wp2;go_roundw
      case rel=>exact⟨i+1,hc,os++[lo],by omega,by go_num,by first|rfl|exact cZ hdiv|simp,Or.inr (Or.inl (by omega)),by simp[hol],by have:=HO.o;rw[cB,List.length_append,hol];exact this,HST2,HN⟩
      case measure=>simp[intOf];omega
  · by_cases hyi:i<ys.length
    · have d1:decide ((i:Int)<(xs.length:Int))=false:=decide_eq_false (by omega)
      rw[ky (xs:=xs) (by omega)]at hst;obtain⟨b2,o2,rfl,hb2,hc2⟩:=HR2.o i hyi;have hcy:=(hn.o.cell (p:=⟨b2,o2+i,none⟩) hb2).trans hc2;have hyB:=iy HY.o i;have j2:(i:Int)<(ys.length:Int):=by omega
      have d2:decide ((i:Int)<(ys.length:Int))=true:=decide_eq_true j2;have HST:=hid hst;clear hst hI hb2 hc2;generalize ys.getD i 0=y at *;rw[aG]at hyB;have hy9:(y:Int)≤999999999:=by omega
      obtain⟨lo,hlo⟩:∃ lo:Nat,lo=(0+y+k)%BB:=⟨_,rfl⟩;obtain⟨hc,hhc⟩:∃ hc:Nat,hc=(0+y+k) / BB:=⟨_,rfl⟩;have HST2:=hid (show dm xs ys (os++[lo]) (i+1) hc by rw[hlo,hhc];exact HST.o);have hmod:((k:Int)+(y:Int))%1000000000=(lo:Int):=by rw[hlo,aG];omega
      have hdiv:((k:Int)+(y:Int)) / 1000000000=(hc:Int):=by rw[hhc,aG];omega
      have hk9:(k:Int)≤1:=by omega
      clear hlo hhc HST hyB hk1;go_wp2_with (at_builtin;refine wpList_append_own _ rfl _ _ 45 rfl w.heap.size 82 i0 (.int .u32 0) 1 4 underlying45 hi hz0 hz1 hz2 rfl (by decide) _ _ _ rfl (ho.o.alloc _) ⟨wr.heap.size,0,none⟩ 1 1 [.int .u32 (lo:Int)] rfl rfl (cells_one _ _ _) (by intro u hu;simp at hu;subst hu;rfl) (by unfold maxLen;omega) (by omega) (by have:=hn.o.size;simp;omega) ?_)
      intro v' w1 hown' hgrow _;have HO:=hid hown';have HN:=hid ((hn.o.alloc hn.o.size _).grown hgrow (by have:=hn.o.size;simp;omega) (fun k hk=>(ho.o.lt k hk).1));clear hown' hgrow;go_wp2;go_roundw
      case rel=>exact⟨i+1,hc,os++[lo],by omega,by go_num,by first|rfl|exact cZ hdiv|simp,Or.inr (Or.inr (by omega)),by simp[hol],by have:=HO.o;rw[cB,List.length_append,hol];exact this,HST2,HN⟩
      case measure=>simp[intOf];omega
    · by_cases hk0:k=0
      · subst hk0
        have d1:decide ((i:Int)<(xs.length:Int))=false:=decide_eq_false (by omega);have d2:decide ((i:Int)<(ys.length:Int))=false:=decide_eq_false (by omega);obtain⟨hv,hB⟩:=hI.o.end0 (by omega) (by omega);have htr:=gM 82 w.heap.size _ os hB wr ho.o;rw[hv,HVA.o,HVB.o]at htr;have HTR:=hid htr;clear hst hv hB htr hI;go_wp2_with fail
        refine HTR.o.mono ?_;rintro e w2 ⟨v',rfl,hown,rfl⟩;go_wp2;go_ret
        exact⟨v',rfl,hown,hn.o⟩
      · have d1:decide ((i:Int)<(xs.length:Int))=false:=decide_eq_false (by omega)
        rw[ky (xs:=xs) (by omega)]at hst;have d2:decide ((i:Int)<(ys.length:Int))=false:=decide_eq_false (by omega);rw[ky (xs:=ys) (by omega)]at hst;obtain rfl:k=1:=by omega
        have HST:=hid hst;clear hst hI;obtain⟨lo,hlo⟩:∃ lo:Nat,lo=(0+0+1)%BB:=⟨_,rfl⟩;obtain⟨hc,hhc⟩:∃ hc:Nat,hc=(0+0+1) / BB:=⟨_,rfl⟩;have HST2:=hid (show dm xs ys (os++[lo]) (i+1) hc by rw[hlo,hhc];exact HST.o);have hlo1:lo=1:=by rw[hlo,aG]
        have hhc0:hc=0:=by rw[hhc,aG]
        subst hlo1 hhc0;clear hlo hhc HST;go_wp2_with (at_builtin;refine wpList_append_own _ rfl _ _ 45 rfl w.heap.size 82 i0 (.int .u32 0) 1 4 underlying45 hi hz0 hz1 hz2 rfl (by decide) _ _ _ rfl (ho.o.alloc _) ⟨wr.heap.size,0,none⟩ 1 1 [.int .u32 1] rfl rfl (cells_one _ _ _) (by intro u hu;simp at hu;subst hu;rfl) (by unfold maxLen;omega) (by omega) (by have:=hn.o.size;simp;omega) ?_)
        intro v' w1 hown' hgrow _;have HO:=hid hown';have HN:=hid ((hn.o.alloc hn.o.size _).grown hgrow (by have:=hn.o.size;simp;omega) (fun k hk=>(ho.o.lt k hk).1));clear hown' hgrow;go_wp2;go_roundw
        case rel=>exact⟨i+1,0,os++[1],by omega,by go_num,by first|rfl|exact cZ hdiv|simp,Or.inl rfl,by simp[hol],by have:=HO.o;rw[cB,List.length_append,hol];exact this,HST2,HN⟩
        case measure=>simp[intOf];omega
open Go.Lib (hid)
theorem z09 (v1 v2:Value)(a b:Nat)(hab:b≤a)(hla:(ae a).length≤100000)(w:World)(h1:Rd .u32 w v1 (ae a))(h2:Rd .u32 w v2 (ae b)) :
 Calls Tryz.prog 134 #[v1,v2] w fun e w'=>∃ v,e=.returned v∧Gb.Own .u32 82 w.heap.size w' v (ae (a-b))∧Below w.heap.size w w':=by
 obtain⟨i0,hi,hz0,hz1,hz2⟩:=info_parts Tryz.info82;have hlb:=aP hab;obtain⟨p1,c1,rfl,r1⟩:=h1.gen;obtain⟨p2,c2,rfl,r2⟩:=h2.gen;have hx:=aR a;have hy:=aR b;have hva:=az a;have hvb:=az b;generalize ae a=xs at *;generalize ae b=ys at *;obtain ⟨HR1,HR2,HX,HY,HVA,HVB,HAB,HO0⟩:=jc r1 r2 hx hy hva hvb hab (World.ownsRow_nil w w.heap.size 82 1);clear h1 h2 r1 r2 hx hy hva hvb hab;go_enter func134,ntmps134
 go_wp2;go_loopw [5,6,7,8] (fun v cc ii _ wr=>∃ (i k:Nat) (os:List Nat),i≤xs.length∧ii=.int .i64 i∧cc=.int .i64 (k:Int)∧os.length=i∧Hid (wr.ownsRow w.heap.size 82 1 v os.length (cls .u32 os))∧Hid (eF xs ys os i k)∧Hid (Below w.heap.size w wr)) (fun _ _ ii _ _=>xs.length-(intOf ii).toNat)
 case atStart=>exact⟨0,0,[],by omega,rfl,rfl,rfl,HO0,eF.start xs ys,Below.refl _ _⟩
 case round =>
  obtain⟨i,k,os,hiM,rfl,rfl,hol,ho,hI,hn⟩:=hrel;have hk1:k≤1:=hI.o.2.2.1;have hk9:(k:Int)≤1:=by omega
  by_cases hxi:i<xs.length
  · obtain⟨b1,o1,rfl,hb1,hc1⟩:=HR1.o i hxi
    have hcx:=(hn.o.cell (p:=⟨b1,o1+i,none⟩) hb1).trans hc1;have hxB:=iy HX.o i;have hyB:=iy HY.o i;have j1:(i:Int)<(xs.length:Int):=by omega
    have d1:decide ((i:Int)<(xs.length:Int))=true:=decide_eq_true j1;have hsm:=hI.o.small hxB;have hbg:=hI.o.big hyB;have hol2:os.length≤100000:=by omega
    have i1:(i:Int)≤100000:=by omega
    clear hb1 hc1 hI;by_cases hyi:i<ys.length
    · obtain⟨b2,o2,rfl,hb2,hc2⟩:=HR2.o i hyi
      have hcy:=(hn.o.cell (p:=⟨b2,o2+i,none⟩) hb2).trans hc2;have j2:(i:Int)<(ys.length:Int):=by omega
      have d2:decide ((i:Int)<(ys.length:Int))=true:=decide_eq_true j2;clear hb2 hc2;generalize xs.getD i 0=x at *;generalize ys.getD i 0=y at *;rw[aG]at hxB hyB;have hx9:(x:Int)≤999999999:=by omega
      have hy9:(y:Int)≤999999999:=by omega
      clear hxB hyB;by_cases hng:x<y+k
      · obtain⟨lo,hlo⟩:∃ lo:Nat,lo=x+BB-(y+k):=⟨_,rfl⟩
        have HST:=hid (show eF xs ys (os++[lo]) (i+1) 1 by rw[hlo];exact hbg (by omega));have hval:(x:Int)-(k:Int)-(y:Int)+1000000000=(lo:Int):=by rw[hlo,aG];omega
        have hneg:(x:Int)-(k:Int)-(y:Int)<0:=by omega
        have hlo9:(lo:Int)≤999999999:=by rw[aG]at hlo;omega
        clear hlo hsm hbg hng;go_wp2_with (at_builtin;refine wpList_append_own _ rfl _ _ 45 rfl w.heap.size 82 i0 (.int .u32 0) 1 4 underlying45 hi hz0 hz1 hz2 rfl (by decide) _ _ _ rfl (ho.o.alloc _) ⟨wr.heap.size,0,none⟩ 1 1 [.int .u32 (lo:Int)] rfl rfl (cells_one _ _ _) (by intro u hu;simp at hu;subst hu;rfl) (by unfold maxLen;omega) (by omega) (by have:=hn.o.size;simp;omega) ?_)
        intro v' w1 hown' hgrow _;have HO:=hid hown';have HN:=hid ((hn.o.alloc hn.o.size _).grown hgrow (by have:=hn.o.size;simp;omega) (fun k hk=>(ho.o.lt k hk).1));clear hown' hgrow;go_wp2;go_roundw
        case rel=>exact⟨i+1,1,os++[lo],by omega,by go_num,rfl,by simp[hol],by have:=HO.o;rw[cB,List.length_append,hol];exact this,HST,HN⟩
        case measure=>simp[intOf];omega
      · obtain⟨lo,hlo⟩:∃ lo:Nat,lo=x-(y+k):=⟨_,rfl⟩
        have HST:=hid (show eF xs ys (os++[lo]) (i+1) 0 by rw[hlo];exact hsm (by omega));have hval:(x:Int)-(k:Int)-(y:Int)=(lo:Int):=by rw[hlo];omega
        have hneg:decide ((lo:Int)<0)=false:=decide_eq_false (by omega);have hlo9:(lo:Int)≤999999999:=by omega
        clear hlo hsm hbg hng;go_wp2_with (at_builtin;refine wpList_append_own _ rfl _ _ 45 rfl w.heap.size 82 i0 (.int .u32 0) 1 4 underlying45 hi hz0 hz1 hz2 rfl (by decide) _ _ _ rfl (ho.o.alloc _) ⟨wr.heap.size,0,none⟩ 1 1 [.int .u32 (lo:Int)] rfl rfl (cells_one _ _ _) (by intro u hu;simp at hu;subst hu;rfl) (by unfold maxLen;omega) (by omega) (by have:=hn.o.size;simp;omega) ?_)
        intro v' w1 hown' hgrow _;have HO:=hid hown';have HN:=hid ((hn.o.alloc hn.o.size _).grown hgrow (by have:=hn.o.size;simp;omega) (fun k hk=>(ho.o.lt k hk).1));clear hown' hgrow;go_wp2;go_roundw
        case rel=>exact⟨i+1,0,os++[lo],by omega,by go_num,rfl,by simp[hol],by have:=HO.o;rw[cB,List.length_append,hol];exact this,HST,HN⟩
        case measure=>simp[intOf];omega
    · have d2:decide ((i:Int)<(ys.length:Int))=false:=decide_eq_false (by omega)
      rw[ky (xs:=ys) (by omega)]at hsm hbg;clear hyB;generalize xs.getD i 0=x at *;rw[aG]at hxB;have hx9:(x:Int)≤999999999:=by omega
      clear hxB;by_cases hng:x<0+k
      · obtain⟨lo,hlo⟩:∃ lo:Nat,lo=x+BB-(0+k):=⟨_,rfl⟩
        have HST:=hid (show eF xs ys (os++[lo]) (i+1) 1 by rw[hlo];exact hbg (by omega));have hval:(x:Int)-(k:Int)+1000000000=(lo:Int):=by rw[hlo,aG];omega
        have hneg:(x:Int)-(k:Int)<0:=by omega
        have hlo9:(lo:Int)≤999999999:=by rw[aG]at hlo;omega
        clear hlo hsm hbg hng;go_wp2_with (at_builtin;refine wpList_append_own _ rfl _ _ 45 rfl w.heap.size 82 i0 (.int .u32 0) 1 4 underlying45 hi hz0 hz1 hz2 rfl (by decide) _ _ _ rfl (ho.o.alloc _) ⟨wr.heap.size,0,none⟩ 1 1 [.int .u32 (lo:Int)] rfl rfl (cells_one _ _ _) (by intro u hu;simp at hu;subst hu;rfl) (by unfold maxLen;omega) (by omega) (by have:=hn.o.size;simp;omega) ?_)
        intro v' w1 hown' hgrow _;have HO:=hid hown';have HN:=hid ((hn.o.alloc hn.o.size _).grown hgrow (by have:=hn.o.size;simp;omega) (fun k hk=>(ho.o.lt k hk).1));clear hown' hgrow;go_wp2;go_roundw
        case rel=>exact⟨i+1,1,os++[lo],by omega,by go_num,rfl,by simp[hol],by have:=HO.o;rw[cB,List.length_append,hol];exact this,HST,HN⟩
        case measure=>simp[intOf];omega
      · obtain⟨lo,hlo⟩:∃ lo:Nat,lo=x-(0+k):=⟨_,rfl⟩
        have HST:=hid (show eF xs ys (os++[lo]) (i+1) 0 by rw[hlo];exact hsm (by omega));have hval:(x:Int)-(k:Int)=(lo:Int):=by rw[hlo];omega
        have hneg:decide ((lo:Int)<0)=false:=decide_eq_false (by omega);have hlo9:(lo:Int)≤999999999:=by omega
        clear hlo hsm hbg hng;go_wp2_with (at_builtin;refine wpList_append_own _ rfl _ _ 45 rfl w.heap.size 82 i0 (.int .u32 0) 1 4 underlying45 hi hz0 hz1 hz2 rfl (by decide) _ _ _ rfl (ho.o.alloc _) ⟨wr.heap.size,0,none⟩ 1 1 [.int .u32 (lo:Int)] rfl rfl (cells_one _ _ _) (by intro u hu;simp at hu;subst hu;rfl) (by unfold maxLen;omega) (by omega) (by have:=hn.o.size;simp;omega) ?_)
        intro v' w1 hown' hgrow _;have HO:=hid hown';have HN:=hid ((hn.o.alloc hn.o.size _).grown hgrow (by have:=hn.o.size;simp;omega) (fun k hk=>(ho.o.lt k hk).1));clear hown' hgrow;go_wp2;go_roundw
        case rel=>exact⟨i+1,0,os++[lo],by omega,by go_num,rfl,by simp[hol],by have:=HO.o;rw[cB,List.length_append,hol];exact this,HST,HN⟩
        case measure=>simp[intOf];omega
  · have d1:decide ((i:Int)<(xs.length:Int))=false:=decide_eq_false (by omega)
    obtain rfl:i=xs.length:=by omega
    obtain⟨hv,hB⟩:=hI.o.done hlb (by rw[HVA.o,HVB.o];exact HAB.o);have htr:=gM 82 w.heap.size _ os hB wr ho.o;rw[hv,HVA.o,HVB.o]at htr;have HTR:=hid htr;clear hv hB htr hI;go_wp2_with fail
    refine HTR.o.mono ?_;rintro e w2 ⟨v',rfl,hown,rfl⟩;go_wp2;go_ret
    exact⟨v',rfl,hown,hn.o⟩
end Go.Proofs.YtoaeaiiabelhkaaGreatDoor
namespace Go.Gb
def TI (x y os:List Nat) (i:Nat):Prop:=os.length=x.length+y.length∧(∀ w∈os,w<BB)∧ai os=ai (x.take i)*ai y
def TR (x y os:List Nat) (i k c:Nat):Prop:=os.length=x.length+y.length∧(∀ w∈os,w<BB)∧c<BB∧os.getD (i+y.length) 0=0∧ai os+BB^(i+k)*c=ai (x.take i)*ai y+BB^i*(x.getD i 0*ai (y.take k))
theorem z4r {os:List Nat}{m v:Nat}(h:∀ w∈os,w<BB)(hv:v<BB):∀ w∈os.set m v,w<BB:=by
 intro w hw;rcases List.mem_or_eq_of_mem_set hw with hw|hw
 · exact h w hw
 · rw[hw];exact hv
theorem z1o {os:List Nat}{m:Nat}(h:ai os<BB^m):os.getD m 0=0:=by
 by_cases hm:m<os.length
 · have h1:=dw os m (by omega)
   rw[fJ hm]at h1;rcases Nat.eq_zero_or_pos (os.getD m 0) with h2|h2
   · exact h2
   · have:BB^m*1≤BB^m*(os.getD m 0+BB*ai (os.drop (m+1))):=Nat.mul_le_mul_left _ (by omega)
     omega
 · exact ky (by omega)
theorem TI.start (x y:List Nat):TI x y (List.replicate (x.length+y.length) 0) 0:=by
 refine⟨by simp,fun w hw=>by rw[(List.mem_replicate.1 hw).2];exact bN,?_⟩;have:=eQ [] (x.length+y.length);simpa [ai] using this
theorem TI.row {x y os:List Nat}{i:Nat}(h:TI x y os i)(hi:i<x.length)(hx:∀ w∈x,w<BB)(hy:∀ w∈y,w<BB):TR x y os i 0 0:=by
 obtain⟨h1,h2,h3⟩:=h;refine⟨h1,h2,bN,z1o ?_,by rw[h3,Nat.mul_zero,Nat.add_zero,List.take_zero];simp[ai]⟩;have l1:=bW (n:=i) (xs:=x.take i) (fun w hw=>hx w (List.mem_of_mem_take hw)) (by simp;omega);have l2:=dS y hy;rw[h3,Nat.pow_add];exact Nat.mul_lt_mul_of_lt_of_le l1 (Nat.le_of_lt l2) (Nat.pow_pos bN)
theorem TR.bound {o a b c:Nat}(ho:o<BB)(ha:a<BB)(hb:b<BB)(hc:c<BB):a*b≤999999998000000001∧o+a*b+c<BB*BB:=by
 have h:=qG ha hb;refine⟨h,?_⟩;rw[aG]at *;omega
theorem TR.step {x y os:List Nat}{i k c:Nat}(h:TR x y os i k c)(hi:i<x.length)(hk:k<y.length)(hx:∀ w∈x,w<BB)(hy:∀ w∈y,w<BB) :
 TR x y (os.set (i+k) ((os.getD (i+k) 0+x.getD i 0*y.getD k 0+c)%BB)) i (k+1) ((os.getD (i+k) 0+x.getD i 0*y.getD k 0+c) / BB):=by
 obtain⟨h1,h2,h3,h4,h5⟩:=h;have hb:=(TR.bound (h2 _ (bf (i:=i+k) (by omega))) (hx _ (bf hi)) (hy _ (bf hk)) h3).2;have hm:=Nat.div_add_mod (os.getD (i+k) 0+x.getD i 0*y.getD k 0+c) BB;have hs:=qE (xs:=os) (i:=i+k) (v:=(os.getD (i+k) 0+x.getD i 0*y.getD k 0+c)%BB) (by omega);refine⟨by simp[h1],z4r h2 (Nat.mod_lt _ bN),(Nat.div_lt_iff_lt_mul bN).2 hb,?_,?_⟩
 · rw[kX,if_neg (by omega)];exact h4
 · rw[aJ y k,Nat.mul_add (x.getD i 0),Nat.mul_add (BB^i)]
   rw[show BB^i*(x.getD i 0*(BB^k*y.getD k 0))=BB^(i+k)*(x.getD i 0*y.getD k 0) by rw[Nat.pow_add,Nat.mul_left_comm (x.getD i 0),Nat.mul_assoc]];rw[← Nat.add_assoc i k 1,Nat.pow_succ,Nat.mul_assoc];generalize (os.getD (i+k) 0+x.getD i 0*y.getD k 0+c)%BB=lo at *;generalize (os.getD (i+k) 0+x.getD i 0*y.getD k 0+c) / BB=q at *;have e:=congrArg (BB^(i+k) * ·) hm;simp only[Nat.mul_add]at e;omega
theorem TR.next {x y os:List Nat}{i c:Nat}(h:TR x y os i y.length c)(hi:i<x.length):TI x y (os.set (i+y.length) c) (i+1):=by
 obtain⟨h1,h2,h3,h4,h5⟩:=h;have hs:=qE (xs:=os) (i:=i+y.length) (v:=c) (by omega);rw[h4,Nat.mul_zero,Nat.add_zero]at hs;refine⟨by simp[h1],z4r h2 h3,?_⟩;rw[hs,h5,List.take_of_length_le (Nat.le_refl _),aJ x i,Nat.add_mul,Nat.mul_assoc]
theorem TI.done {x y os:List Nat}(h:TI x y os x.length):ai os=ai x*ai y:=by rw[h.2.2,List.take_of_length_le (Nat.le_refl _)]
end Go.Gb
namespace Go.Proofs.YtoaeaiiabelhkaaGreatDoor
open Go.RowKit Go.Gb
def Blk4 (w:World) (g:Nat) (zs:List Nat):Prop:=w.heap[g]? = some (.cells (cls .u32 zs).toArray 82 (0,0))
theorem Blk4.cell {w:World}{g:Nat}{zs:List Nat}(h:Blk4 w g zs){i:Nat}(hi:i<zs.length):w.cell? ⟨g,i,none⟩=some (.int .u32 ((zs.getD i 0:Nat):Int)):=by
 unfold Blk4 at h
 have:=jF (k:=.u32) hi;simp only[World.cell?,h];simpa using this
theorem Blk4.free {w:World}{g:Nat}{zs:List Nat}(h:Blk4 w g zs)(i:Nat):w.frozen? ⟨g,i,none⟩=false:=by
 unfold Blk4 at h
 simp only[World.frozen?,h];simp
theorem Blk4.set {w:World}{g:Nat}{zs:List Nat}(h:Blk4 w g zs)(i v:Nat):Blk4 (w.setCell ⟨g,i,none⟩ (.int .u32 ((v:Nat):Int))) g (zs.set i v):=by
 unfold Blk4 at *
 simp only[World.setCell,Array.getElem?_modify,h];simp[rZ]
theorem Blk4.below {w w':World}{g:Nat}{zs:List Nat}(h:Blk4 w g zs)(hb:Below w.heap.size w w'):Blk4 w' g zs:=by
 unfold Blk4 at *
 rw[hb.block g (Array.getElem?_eq_some_iff.1 h).1];exact h
theorem Blk4.own {w:World}{g B:Nat}{zs:List Nat}(h:Blk4 w g zs)(hB:B≤g)(hm:zs.length≤maxLen):Gb.Own .u32 82 B w (.slice (some ⟨g,0,none⟩) zs.length zs.length) zs:=by
 refine⟨by simp[cls],Or.inr ⟨g,zs.length,(cls .u32 zs).toArray,rfl,hB,h,Nat.le_refl _,hm,by simp[cls],?_⟩⟩;rw[Nat.mul_one,← mZ,List.take_of_length_le (Nat.le_refl _)]
theorem Blk4.of_made {w:World}{B g n:Nat}{xs:List Value}{zs:List Nat}(h:w.ownsRow B 82 1 (.slice (some ⟨g,0,none⟩) n n) n xs)(hx:xs=cls .u32 zs):Blk4 w g zs:=by
 obtain⟨h1,h2⟩:=h;rcases h2 with⟨h2,_⟩|⟨g',cap,cur,hv,hg,hh,hn,hc,hs,ht⟩
 · cases h2
 · injection hv with e1 e2 e3
   injection e1 with e1
   injection e1 with e4 e5 e6
   subst e4 e3;unfold Blk4
   rw[hh];rw[Nat.mul_one]at ht hs;rw[List.take_of_length_le (by simpa using Nat.le_of_eq hs)]at ht;congr 2
   rw[← hx,← ht]
open Go.Lib (hid)
theorem j6 (n:Nat):(madeCells #[Value.int .u32 0] n).toList=cls .u32 (List.replicate n 0):=by
 apply List.ext_getElem
 · simp[size_madeCells,cls]
 · intro i h1 h2
   simp[madeCells,cls,Nat.mod_one]
theorem wV (b1 o1 c1 b2 o2 c2:Nat)(xs ys:List Nat)(hxp:0<xs.length)(hyp:0<ys.length)(hxl:xs.length≤100000)(hyl:ys.length≤100000)(hx:∀ x∈xs,x<BB)(hy:∀ y∈ys,y<BB)(w:World)(hb1:b1<w.heap.size)(hb2:b2<w.heap.size)
 (hcx:∀ i,i<xs.length→w.cell? ⟨b1,o1+i,none⟩=some (.int .u32 ((xs.getD i 0:Nat):Int))) (hcy:∀ i,i<ys.length→w.cell? ⟨b2,o2+i,none⟩=some (.int .u32 ((ys.getD i 0:Nat):Int))) :
 Calls Tryz.prog 65 #[.slice (some ⟨b1,o1,none⟩) xs.length c1,.slice (some ⟨b2,o2,none⟩) ys.length c2] w fun e w'=>∃ v,e=.returned v∧Gb.Own .u32 82 w.heap.size w' v (ae (ai xs*ai ys))∧Below w.heap.size w w':=by
 obtain⟨i0,hi,hz0,hz1,hz2⟩:=info_parts Tryz.info82;obtain ⟨HX,HY,HCX,HCY⟩:=aN hx hy hcx hcy;have d1:((xs.length:Int)==0)=false:=beq_eq_false_iff_ne.2 (by omega);have d2:((ys.length:Int)==0)=false:=beq_eq_false_iff_ne.2 (by omega);clear hx hy hcx hcy;go_enter func65,ntmps65
 go_wp2_with (at_make;refine wpList_make_full _ rfl _ _ 45 rfl w.heap.size 82 i0 (.int .u32 0) 1 underlying45 hi hz0 hz1 _ _ _ _ (xs.length+ys.length) rfl rfl (by omega) (by omega) ?b2 ?b3 (Nat.le_refl _) ?_)
 case b2=>rw[hz2];omega
 case b3=>unfold maxLen;omega
 intro w0 hown0 hgrow0;have u6:=hid (show Blk4 w0 w.heap.size (List.replicate (xs.length+ys.length) 0) from Blk4.of_made hown0 (j6 _));have HN0:=hid ((Below.refl w.heap.size w).grown hgrow0 (Nat.le_refl _) (fun k h=>by cases h));clear hown0 hgrow0;go_wp2;go_loopw [6,7,8,9] (fun ii _ _ _ wr=>∃ (i:Nat) (os:List Nat),i≤xs.length∧ii=.int .i64 i∧Hid (TI xs ys os i)∧Hid (Blk4 wr w.heap.size os)∧Hid (Below w.heap.size w wr)) (fun ii _ _ _ _=>xs.length-(intOf ii).toNat)
 case atStart=>exact⟨0,_,Nat.zero_le _,rfl,TI.start xs ys,u6,HN0⟩
 case round =>
  obtain⟨i,os,hi',rfl,hT,hB,hn⟩:=hrel;by_cases hlt:i<xs.length
  · have HR:=hid (hT.o.row hlt HX.o HY.o)
    have i1:(i:Int)<(xs.length:Int):=by omega
    clear hT;go_wp2;obtain⟨wo,rfl⟩:∃ wo:World,wo=wr:=⟨_,rfl⟩;go_loopw [7,8,9] (fun cc kk _ wr=>∃ (k c:Nat) (os:List Nat),k≤ys.length∧kk=.int .i64 k∧cc=.int .u64 (c:Int)∧Hid (TR xs ys os i k c)∧Hid (Blk4 wr w.heap.size os)∧Hid (Below w.heap.size w wr)) (fun _ kk _ _=>ys.length-(intOf kk).toNat)
    case atStart=>exact⟨0,0,os,Nat.zero_le _,rfl,rfl,HR,hB,hn⟩
    case round =>
        clear HR hB hn;obtain⟨k,c,os,hk',rfl,rfl,hR,hB,hn⟩:=hrel;have hol:=hR.o.1;have hcB:=hR.o.2.2.1;rw[aG]at hcB;have hc9:(c:Int)≤999999999:=by omega
        by_cases hkt:k<ys.length
        · have hst:=hR.o.step hlt hkt HX.o HY.o
          have hbd:=TR.bound (hR.o.2.1 _ (bf (xs:=os) (i:=i+k) (by omega))) (HX.o _ (bf hlt)) (HY.o _ (bf hkt)) hR.o.2.2.1;have hoB:=hR.o.2.1 _ (bf (xs:=os) (i:=i+k) (by omega));have hxB:=HX.o _ (bf hlt);have hyB:=HY.o _ (bf hkt);have hco:=hB.o.cell (i:=i+k) (by omega);have hcx:=(hn.o.cell (p:=⟨b1,o1+i,none⟩) hb1).trans (HCX.o i hlt);have hcy:=(hn.o.cell (p:=⟨b2,o2+k,none⟩) hb2).trans (HCY.o k hkt);have hset:=hB.o.set (i+k) ((os.getD (i+k) 0+xs.getD i 0*ys.getD k 0+c)%BB);have hfr:=hB.o.free (i+k);have j1:(k:Int)<(ys.length:Int):=by omega
          have j2:(i:Int)+(k:Int)<(xs.length:Int)+(ys.length:Int):=by omega
          generalize os.getD (i+k) 0=o at *;generalize xs.getD i 0=x at *;generalize ys.getD k 0=y at *;obtain⟨p,hp⟩:∃ p:Nat,p=x*y:=⟨_,rfl⟩;have e1:(x:Int)*(y:Int)=(p:Int):=by rw[hp];exact(Int.natCast_mul _ _).symm
          rw[← hp]at hbd hst hset;obtain⟨lo,hlo⟩:∃ lo:Nat,lo=(o+p+c)%BB:=⟨_,rfl⟩;obtain⟨q,hq⟩:∃ q:Nat,q=(o+p+c) / BB:=⟨_,rfl⟩;rw[← hlo,← hq]at hst;rw[← hlo]at hset;rw[aG]at hoB hxB hyB;have hp9:(p:Int)≤999999998000000001:=by omega
          have ho9:(o:Int)≤999999999:=by omega
          have w1:IntKind.u64.wrap (p:Int)=(p:Int):=IntWalk.u64_in _ (by omega);have hmod:((o:Int)+(p:Int)+(c:Int))%1000000000=(lo:Int):=by rw[hlo,aG];omega
          have hdiv:((o:Int)+(p:Int)+(c:Int)) / 1000000000=(q:Int):=by rw[hq,aG];omega
          have hlo9:(lo:Int)≤999999999:=by rw[aG]at hlo;omega
          have hx9:(x:Int)≤999999999:=by omega
          have hy9:(y:Int)≤999999999:=by omega
          have HST:=hid hst;have HSET:=hid (fun nq=>(show Blk4 ((wr.drewN nq).setCell ⟨w.heap.size,i+k,none⟩ (.int .u32 (lo:Int))) w.heap.size (os.set (i+k) lo) from hset));have HNN:=hid (fun nq=>(below_drewN' hn.o nq).setCell (p:=⟨w.heap.size,i+k,none⟩) (Nat.le_refl _) (.int .u32 (lo:Int)));have hco':∀ nq,(wr.drewN nq).cell? ⟨w.heap.size,i+k,none⟩=some (.int .u32 (o:Int)):=fun _=>hco;have hfr':∀ nq,(wr.drewN nq).frozen? ⟨w.heap.size,i+k,none⟩=false:=fun _=>hfr;clear hst hset hbd hlo hq hp hoB hxB hyB hcB hR hB hn;go_wp2;go_quiet (fail)
          have hco2:=hco' nq;have hfr2:=hfr' nq;obtain ⟨HSET2,HNN2⟩:=aB (HSET.o nq) (HNN.o nq);clear hco hfr hcx hcy hco' hfr' HSET HNN;generalize wr.drewN nq=w2 at *;go_wp2;go_roundw
          case rel=>exact⟨k+1,q,os.set (i+k) lo,by omega,by go_num,cZ hdiv,HST,HSET2,HNN2⟩
          case measure=>simp[intOf];omega
        · obtain rfl:k=ys.length:=by omega
          have hnx:=hR.o.next hlt;have hset:=hB.o.set (i+ys.length) c;have hco:=hB.o.cell (i:=i+ys.length) (by omega);have hfr:=hB.o.free (i+ys.length);obtain ⟨HNX,HSET⟩:=aB hnx hset;have HN2:=hid (hn.o.setCell (p:=⟨w.heap.size,i+ys.length,none⟩) (Nat.le_refl _) (.int .u32 (c:Int)));have j2:(i:Int)+(ys.length:Int)<(xs.length:Int)+(ys.length:Int):=by omega
          clear hnx hset hR hB hn hcB;generalize os.getD (i+ys.length) 0=o at *;go_wp2;go_roundw
          case rel=>exact⟨i+1,os.set (i+ys.length) c,by omega,by go_num,HNX,HSET,HN2⟩
          case measure=>simp[intOf];omega
  · obtain rfl:i=xs.length:=by omega
    have hv:=hT.o.done;have hol:=hT.o.1;have hown:=hB.o.own (B:=w.heap.size) (Nat.le_refl _) (by unfold maxLen;omega);rw[hol]at hown;have htr:=gM 82 w.heap.size _ os hT.o.2.1 wr hown;rw[hv]at htr;have HTR:=hid htr;clear hv hol hown htr hT hB;go_wp2_with fail
    refine HTR.o.mono ?_;rintro e w2 ⟨v',rfl,hown,rfl⟩;go_wp2;go_ret
    exact⟨v',rfl,hown,hn.o⟩
