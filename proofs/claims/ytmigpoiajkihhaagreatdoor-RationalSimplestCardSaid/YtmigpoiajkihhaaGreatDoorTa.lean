/- rational.simplest of any two positive numbers. -/
import Derived.Test.YtmigpoiajkihhaaGreatDoorMz27q
import Derived.Test.YtmigpoiajkihhaaGreatDoorNumS
set_option maxRecDepth 100000
set_option maxHeartbeats 20000000
open Go.Lib (hid)
namespace Go.Proofs.YtmigpoiajkihhaaGreatDoor
open Go.RowKit Go.Gb
theorem pM (M P D m1 e1 m2 e2:Nat)(hI:SimInv M P D m1 e1 m2 e2 0 1 1 0)(w:World)(hl:La w)
 (hDM:∀ x y:Nat,0<y→x≤M→y≤M→CL 55 #[.string (Sz ((x:Nat):Int)),.string (Sz ((y:Nat):Int))] (.tuple #[.string (Sz ((x / y:Nat):Int)),.string (Sz ((x%y:Nat):Int)),.int .i64 0]))
 (hT:∀ x y u:Nat,x*y=u→x≤M→y≤M→u≤M→CL 60 #[.string (Sz ((x:Nat):Int)),.string (Sz ((y:Nat):Int))] (.string (Sz ((u:Nat):Int))))
 (hP:∀ x y u:Nat,x+y=u→x≤M→y≤M→u≤M→CL 109 #[.string (Sz ((x:Nat):Int)),.string (Sz ((y:Nat):Int))] (.string (Sz ((u:Nat):Int)))) :
 CR 72 #[.agg #[.string (Sz ((m1:Nat):Int)),.string (Sz ((e1:Nat):Int))],.agg #[.string (Sz ((m2:Nat):Int)),.string (Sz ((e2:Nat):Int))]] w (.agg #[.string (Sz ((P:Nat):Int)),.string (Sz ((D:Nat):Int))]):=by
 have HI:=hid hI
 have HDM:=hid hDM
 have HTT:=hid hT
 have HPP:=hid hP
 clear hI hDM hT hP
 obtain⟨sP,hsP⟩:∃ x,x=(Sz ((P:Nat):Int)):=⟨_,rfl⟩
 obtain⟨sD,hsD⟩:∃ x,x=(Sz ((D:Nat):Int)):=⟨_,rfl⟩
 rw[← hsP,← hsD]
 have HSP:=hid (And.intro hsP hsD)
 clear hsP hsD
 obtain⟨il1,hl1⟩:∃ x,x=(Sz ((m1:Nat):Int)):=⟨_,rfl⟩
 obtain⟨il2,hl2⟩:∃ x,x=(Sz ((e1:Nat):Int)):=⟨_,rfl⟩
 obtain⟨ih1,hh1⟩:∃ x,x=(Sz ((m2:Nat):Int)):=⟨_,rfl⟩
 obtain⟨ih2,hh2⟩:∃ x,x=(Sz ((e2:Nat):Int)):=⟨_,rfl⟩
 rw[← hl1,← hl2,← hh1,← hh2]
 have HS0:=hid (And.intro hl1 (And.intro hl2 (And.intro hh1 hh2)))
 clear hl1 hl2 hh1 hh2
 obtain⟨w0,hw0⟩:∃ w0:World,w0=(((((w.alloc (.cells #[.string il1,.string il2] 44)).alloc (.cells #[.string ih1,.string ih2] 44)).alloc (.cells #[.string ⟨#[]⟩,.string ⟨#[]⟩] 44)).alloc (.cells #[.string ⟨#[48]⟩,.string ⟨#[49]⟩] 44)).alloc (.cells #[.string ⟨#[49]⟩,.string ⟨#[48]⟩] 44)):=⟨_,rfl⟩
 have M00:Mem w w0 (fun k=>if k=3 then (⟨#[48]⟩,⟨#[49]⟩) else if k=4 then (⟨#[49]⟩,⟨#[48]⟩) else (fun k=>if k=0 then (il1,il2) else if k=1 then (ih1,ih2) else (⟨#[]⟩,⟨#[]⟩)) k):=by
  rw[hw0]
  refine⟨?_,by simp,fun k hk=>?_⟩
  · repeat (first|exact Below.refl _ _|refine Below.setCell ?_ (by first|omega|(simp;omega)|simp) _|refine Below.alloc ?_ (by first|omega|(simp;omega)|simp) _|refine Below.drew ?_)
  · match k,hk with
    | 0,_=>exact⟨(q_lt).trans ((q_lt).trans ((q_lt).trans ((q_lt).trans ((aW rfl).trans rfl)))),(q_lt).trans ((q_lt).trans ((q_lt).trans ((q_lt).trans ((aW rfl).trans rfl)))),(gL).trans ((gL).trans ((gL).trans ((gL).trans (bT rfl)))),(gL).trans ((gL).trans ((gL).trans ((gL).trans (bT rfl))))⟩
    | 1,_=>exact⟨(q_lt).trans ((q_lt).trans ((q_lt).trans ((aW).trans rfl))),(q_lt).trans ((q_lt).trans ((q_lt).trans ((aW).trans rfl))),(gL).trans ((gL).trans ((gL).trans (bT))),(gL).trans ((gL).trans ((gL).trans (bT)))⟩
    | 2,_=>exact⟨(q_lt).trans ((q_lt).trans ((aW).trans rfl)),(q_lt).trans ((q_lt).trans ((aW).trans rfl)),(gL).trans ((gL).trans (bT)),(gL).trans ((gL).trans (bT))⟩
    | 3,_=>exact⟨(q_lt).trans ((aW).trans rfl),(q_lt).trans ((aW).trans rfl),(gL).trans (bT),(gL).trans (bT)⟩
    | 4,_=>exact⟨(aW).trans rfl,(aW).trans rfl,bT,bT⟩
 have HW0:=hid hw0
 have M0:=hid M00
 clear M00
 have HL:=hid (show ∀ W f,Mem w W f→La W from fun W f h=>hl.on h.1)
 clear hw0 hl
 go_enter Tryz.func72,Tryz.ntmps72
 go_wp2_with fail
 rw[← HW0.out]
 go_loopg [7] (e1+e2) (fun kk _ wr=>∃ n1 d1 n2 d2 b1 b2 g1 g2:Nat,Hid (d1+d2=kk∧SimInv M P D n1 d1 n2 d2 b1 b2 g1 g2)∧Hid (Mem w wr (fun k=>if k=3 then ((Sz ((b1:Nat):Int)),(Sz ((b2:Nat):Int))) else if k=4 then ((Sz ((g1:Nat):Int)),(Sz ((g2:Nat):Int))) else (fun k=>if k=0 then ((Sz ((n1:Nat):Int)),(Sz ((d1:Nat):Int))) else if k=1 then ((Sz ((n2:Nat):Int)),(Sz ((d2:Nat):Int))) else (⟨#[]⟩,⟨#[]⟩)) k)))
 case atStart =>
  refine⟨m1,e1,m2,e2,0,1,1,0,hid ⟨rfl,HI.out⟩,hid ?_⟩
  obtain⟨a1,a2,a3,a4⟩:=HS0.out
  rw[← a1,← a2,← a3,← a4,show(Sz ((0:Nat):Int))=⟨#[48]⟩from um,show(Sz ((1:Nat):Int))=⟨#[49]⟩from iT]
  exact M0.out
 case round =>
  clear M0 HW0 HS0 HI
  obtain⟨n1,d1,n2,d2,b1,b2,g1,g2,hI,hM⟩:=hrel
  obtain⟨kb1,kb2,kb3,kb4,kb5,kb6,kb7,kb8⟩:=hI.out.2.bounds
  have i1:=hI.out.2.p2
  have i2:=hI.out.2.p4
  have i3:=hI.out.2.m1
  have i4:=hI.out.2.m2
  have i5:=hI.out.2.m3
  have i6:=hI.out.2.m4
  have i7:=hI.out.2.mP
  have i8:=hI.out.2.mD
  have c1:=HDM.out n1 d1 i1 i3 i4
  have c2:=HDM.out n2 d2 i2 i5 i6
  by_cases h0:n1%d1=0
  · obtain⟨f1,f2⟩:=hI.out.2.endA h0
    have c3:=HTT.out (n1 / d1) g1 ((n1 / d1)*g1) rfl kb5 kb1 (by omega)
    have c4:=HPP.out ((n1 / d1)*g1) b1 (P) f1 (by omega) kb2 i7
    have c5:=HTT.out (n1 / d1) g2 ((n1 / d1)*g2) rfl kb5 kb3 (by omega)
    have c6:=HPP.out ((n1 / d1)*g2) b2 (D) f2 (by omega) kb4 i8
    have z0:((Sz ((n1%d1:Nat):Int)).toList==[48])=true:=by rw[h0,show(Sz ((0:Nat):Int))=⟨#[48]⟩from um,toList_data];rfl
    obtain⟨l1,hl1⟩:∃ x,x=(Sz ((n1:Nat):Int)):=⟨_,rfl⟩
    obtain⟨l2,hl2⟩:∃ x,x=(Sz ((d1:Nat):Int)):=⟨_,rfl⟩
    obtain⟨h1,hh1⟩:∃ x,x=(Sz ((n2:Nat):Int)):=⟨_,rfl⟩
    obtain⟨h2,hh2⟩:∃ x,x=(Sz ((d2:Nat):Int)):=⟨_,rfl⟩
    obtain⟨bb1,hbb1⟩:∃ x,x=(Sz ((b1:Nat):Int)):=⟨_,rfl⟩
    obtain⟨bb2,hbb2⟩:∃ x,x=(Sz ((b2:Nat):Int)):=⟨_,rfl⟩
    obtain⟨ls1,hls1⟩:∃ x,x=(Sz ((g1:Nat):Int)):=⟨_,rfl⟩
    obtain⟨ls2,hls2⟩:∃ x,x=(Sz ((g2:Nat):Int)):=⟨_,rfl⟩
    obtain⟨qq,hqq⟩:∃ x,x=(Sz ((n1 / d1:Nat):Int)):=⟨_,rfl⟩
    obtain⟨rr,hrr⟩:∃ x,x=(Sz ((n1%d1:Nat):Int)):=⟨_,rfl⟩
    obtain⟨qh,hqh⟩:∃ x,x=(Sz ((n2 / d2:Nat):Int)):=⟨_,rfl⟩
    obtain⟨rh,hrh⟩:∃ x,x=(Sz ((n2%d2:Nat):Int)):=⟨_,rfl⟩
    obtain⟨ta,hta⟩:∃ x,x=(Sz (((n1 / d1)*g1:Nat):Int)):=⟨_,rfl⟩
    obtain⟨tc,htc⟩:∃ x,x=(Sz (((n1 / d1)*g2:Nat):Int)):=⟨_,rfl⟩
    have hM:=hM.out
    obtain⟨hsP,hsD⟩:=HSP.out
    simp only[← hl1,← hl2,← hh1,← hh2,← hbb1,← hbb2,← hls1,← hls2,← hqq,← hrr,← hqh,← hrh,← hta,← htc,← hsP,← hsD]at c1 c2 c3 c4 c5 c6 hM z0
    have M0:=hid hM
    have C1:=hid c1
    have C2:=hid c2
    have C3:=hid c3
    have C4:=hid c4
    have C5:=hid c5
    have C6:=hid c6
    have EQ:=hid (And.intro hl1 ( And.intro hl2 ( And.intro hh1 ( And.intro hh2 ( And.intro hbb1 ( And.intro hbb2 ( And.intro hls1 ( And.intro hls2 ( And.intro hqq ( And.intro hrr ( And.intro hqh ( And.intro hrh ( And.intro hta (htc))))))))))))))
    clear hM c1 c2 c3 c4 c5 c6 hl1 hl2 hh1 hh2 hbb1 hbb2 hls1 hls2 hqq hrr hqh hrh hta htc hsP hsD
    have HN:=hid hI.out
    clear hI kb1 kb2 kb3 kb4 kb5 kb6 kb7 kb8 i1 i2 i3 i4 i5 i6 i7 i8 f1 f2 h0
    obtain⟨⟨k0a,k0b,k0c,k0d⟩,⟨k1a,k1b,k1c,k1d⟩,⟨k2a,k2b,k2c,k2d⟩,⟨k3a,k3b,k3c,k3d⟩,⟨k4a,k4b,k4c,k4d⟩⟩:=M0.out.facts
    have kz:=M0.out.2.1
    go_wp2_with fail
    refine(C1.out _ (HL.out _ _ M0.out)).mono ?_
    rintro e w1 ⟨rfl,hb⟩
    have M1:=hid (M0.out.call hb)
    clear hb k0a k0b k0c k0d k1a k1b k1c k1d k2a k2b k2c k2d k3a k3b k3c k3d k4a k4b k4c k4d kz
    obtain⟨⟨k0a,k0b,k0c,k0d⟩,⟨k1a,k1b,k1c,k1d⟩,⟨k2a,k2b,k2c,k2d⟩,⟨k3a,k3b,k3c,k3d⟩,⟨k4a,k4b,k4c,k4d⟩⟩:=M1.out.facts
    have kz:=M1.out.2.1
    go_wp2_with fail
    refine(C2.out _ (HL.out _ _ M1.out)).mono ?_
    rintro e w2 ⟨rfl,hb⟩
    have M2:=hid (M1.out.call hb)
    clear hb k0a k0b k0c k0d k1a k1b k1c k1d k2a k2b k2c k2d k3a k3b k3c k3d k4a k4b k4c k4d kz
    obtain⟨⟨k0a,k0b,k0c,k0d⟩,⟨k1a,k1b,k1c,k1d⟩,⟨k2a,k2b,k2c,k2d⟩,⟨k3a,k3b,k3c,k3d⟩,⟨k4a,k4b,k4c,k4d⟩⟩:=M2.out.facts
    have kz:=M2.out.2.1
    go_upto_region 7 with fail
    refine dL (by kernel_rfl) (SInv _ 48 16 (Vl qq (w.heap.size+1+1+1) (w.heap.size+1+1+1+1) (bb1,bb2) (ls1,ls2) ta sP tc sD) _ (fun L W=>Mem w W ((Fl (fun k=>if k=0 then (l1,l2) else if k=1 then (h1,h2) else (⟨#[]⟩,⟨#[]⟩)) (bb1,bb2) (ls1,ls2) (sP,sD)) L))) (SInv.start ?s2) ?_ ?_
    case s2 =>
        have h:=M2.out.drew
        rw[show(Fl (fun k=>if k=0 then (l1,l2) else if k=1 then (h1,h2) else (⟨#[]⟩,⟨#[]⟩)) (bb1,bb2) (ls1,ls2) (sP,sD)) (Array.replicate _ false)=(fun k=>if k=3 then (bb1,bb2) else if k=4 then (ls1,ls2) else (fun k=>if k=0 then (l1,l2) else if k=1 then (h1,h2) else (⟨#[]⟩,⟨#[]⟩)) k) from ?e2]
        · exact h
        case e2=>funext k;unfold Fl;by_cases h3:k=3<;>by_cases h4:k=4<;>simp[h3,h4]
    · intro listed a W i hI hi
      have hlt:=eF hi
      have HI:=hid hI
      have Hi:=fun(j:Nat) (h:i=j)=>(hid (h▸hi):Hid (j∈_))
      clear k0a k0b k0c k0d k1a k1b k1c k1d k2a k2b k2c k2d k3a k3b k3c k3d k4a k4b k4c k4d kz
      match i,hlt with
      | 0,_ =>
        have Hi:=Hi 0 rfl
        have y6:a.tmps[6]? = some (.pointer (some ⟨w.heap.size+1+1+1+1,0,none⟩)):=HI.out.rest 6 (Or.inl (by decide))
        have n17:listed.getD 17 false=false:=HI.out.not (i:=0) (j:=17) (by kernel_rfl) (bP Hi.out)
        have z0:W.cell? ⟨w.heap.size+1+1+1+1,0,none⟩=some (.string ls1):=by
         have h:=HI.out.world.facts.2.2.2.2.1
         simpa [Fl,n17] using h
        have z1:W.cell? ⟨w.heap.size+1+1+1+1,1,none⟩=some (.string ls2):=by
         have h:=HI.out.world.facts.2.2.2.2.2.1
         simpa [Fl,n17] using h
        clear hI hi
        refine wpOp_step rfl (fun K' hK=>?_)
        have hK:=hid hK
        go_simp
        exact hK.out _ _ (HI.out.put Hi.out (by simp) rfl rfl (by simp) (by rw[aM (by decide) (by decide)];exact HI.out.world))
      | 1,_ =>
        have Hi:=Hi 1 rfl
        have y7:a.tmps[7]? = some (.string qq):=HI.out.rest 7 (Or.inl (by decide))
        clear hI hi
        refine wpOp_step rfl (fun K' hK=>?_)
        have hK:=hid hK
        go_simp
        exact hK.out _ _ (HI.out.put Hi.out (by simp) rfl rfl (by simp) (by rw[aM (by decide) (by decide)];exact HI.out.world))
      | 2,_ =>
        have Hi:=Hi 2 rfl
        have y6:a.tmps[6]? = some (.pointer (some ⟨w.heap.size+1+1+1+1,0,none⟩)):=HI.out.rest 6 (Or.inl (by decide))
        clear hI hi
        refine wpOp_step rfl (fun K' hK=>?_)
        have hK:=hid hK
        go_simp
        exact hK.out _ _ (HI.out.put Hi.out (by simp) rfl rfl (by simp) (by rw[aM (by decide) (by decide)];exact HI.out.world))
      | 3,_ =>
        have Hi:=Hi 3 rfl
        have x2:a.tmps[50]? = some (.pointer (some ⟨w.heap.size+1+1+1+1,0,none⟩)):=HI.out.at (i:=2) Hi.out (by kernel_rfl) (by decide)
        have n17:listed.getD 17 false=false:=HI.out.not (i:=3) (j:=17) (by kernel_rfl) (bP Hi.out)
        have z0:W.cell? ⟨w.heap.size+1+1+1+1,0,none⟩=some (.string ls1):=by
         have h:=HI.out.world.facts.2.2.2.2.1
         simpa [Fl,n17] using h
        clear hI hi
        refine wpOp_step rfl (fun K' hK=>?_)
        have hK:=hid hK
        go_simp
        exact hK.out _ _ (HI.out.put Hi.out (by simp) rfl rfl (by simp) (by rw[aM (by decide) (by decide)];exact HI.out.world))
      | 4,_ =>
        have Hi:=Hi 4 rfl
        have x1:a.tmps[49]? = some (.string qq):=HI.out.at (i:=1) Hi.out (by kernel_rfl) (by decide)
        have x3:a.tmps[51]? = some (.string ls1):=HI.out.at (i:=3) Hi.out (by kernel_rfl) (by decide)
        clear hI hi
        refine wpOp_step rfl (fun K' hK=>?_)
        have hK:=hid hK
        go_simp
        refine(C3.out _ (HL.out _ _ HI.out.world)).mono ?_
        rintro e W' ⟨rfl,hb⟩
        exact hK.out _ _ (HI.out.put Hi.out (by simp) rfl rfl (by simp) (by rw[aM (by decide) (by decide)];exact HI.out.world.call hb))
      | 5,_ =>
        have Hi:=Hi 5 rfl
        have y5:a.tmps[5]? = some (.pointer (some ⟨w.heap.size+1+1+1,0,none⟩)):=HI.out.rest 5 (Or.inl (by decide))
        clear hI hi
        refine wpOp_step rfl (fun K' hK=>?_)
        have hK:=hid hK
        go_simp
        exact hK.out _ _ (HI.out.put Hi.out (by simp) rfl rfl (by simp) (by rw[aM (by decide) (by decide)];exact HI.out.world))
      | 6,_ =>
        have Hi:=Hi 6 rfl
        have x5:a.tmps[53]? = some (.pointer (some ⟨w.heap.size+1+1+1,0,none⟩)):=HI.out.at (i:=5) Hi.out (by kernel_rfl) (by decide)
        have n16:listed.getD 16 false=false:=HI.out.not (i:=6) (j:=16) (by kernel_rfl) (bP Hi.out)
        have z0:W.cell? ⟨w.heap.size+1+1+1,0,none⟩=some (.string bb1):=by
         have h:=HI.out.world.facts.2.2.2.1.1
         simpa [Fl,n16] using h
        clear hI hi
        refine wpOp_step rfl (fun K' hK=>?_)
        have hK:=hid hK
        go_simp
        exact hK.out _ _ (HI.out.put Hi.out (by simp) rfl rfl (by simp) (by rw[aM (by decide) (by decide)];exact HI.out.world))
      | 7,_ =>
        have Hi:=Hi 7 rfl
        have x4:a.tmps[52]? = some (.string ta):=HI.out.at (i:=4) Hi.out (by kernel_rfl) (by decide)
        have x6:a.tmps[54]? = some (.string bb1):=HI.out.at (i:=6) Hi.out (by kernel_rfl) (by decide)
        clear hI hi
        refine wpOp_step rfl (fun K' hK=>?_)
        have hK:=hid hK
        go_simp
        refine(C4.out _ (HL.out _ _ HI.out.world)).mono ?_
        rintro e W' ⟨rfl,hb⟩
        exact hK.out _ _ (HI.out.put Hi.out (by simp) rfl rfl (by simp) (by rw[aM (by decide) (by decide)];exact HI.out.world.call hb))
      | 8,_ =>
        have Hi:=Hi 8 rfl
        have y7:a.tmps[7]? = some (.string qq):=HI.out.rest 7 (Or.inl (by decide))
        clear hI hi
        refine wpOp_step rfl (fun K' hK=>?_)
        have hK:=hid hK
        go_simp
        exact hK.out _ _ (HI.out.put Hi.out (by simp) rfl rfl (by simp) (by rw[aM (by decide) (by decide)];exact HI.out.world))
      | 9,_ =>
        have Hi:=Hi 9 rfl
        have y6:a.tmps[6]? = some (.pointer (some ⟨w.heap.size+1+1+1+1,0,none⟩)):=HI.out.rest 6 (Or.inl (by decide))
        clear hI hi
        refine wpOp_step rfl (fun K' hK=>?_)
        have hK:=hid hK
        go_simp
        exact hK.out _ _ (HI.out.put Hi.out (by simp) rfl rfl (by simp) (by rw[aM (by decide) (by decide)];exact HI.out.world))
      | 10,_ =>
        have Hi:=Hi 10 rfl
        have x9:a.tmps[57]? = some (.pointer (some ⟨w.heap.size+1+1+1+1,1,none⟩)):=HI.out.at (i:=9) Hi.out (by kernel_rfl) (by decide)
        have n17:listed.getD 17 false=false:=HI.out.not (i:=10) (j:=17) (by kernel_rfl) (bP Hi.out)
        have z0:W.cell? ⟨w.heap.size+1+1+1+1,1,none⟩=some (.string ls2):=by
         have h:=HI.out.world.facts.2.2.2.2.2.1
         simpa [Fl,n17] using h
        clear hI hi
        refine wpOp_step rfl (fun K' hK=>?_)
        have hK:=hid hK
        go_simp
        exact hK.out _ _ (HI.out.put Hi.out (by simp) rfl rfl (by simp) (by rw[aM (by decide) (by decide)];exact HI.out.world))
      | 11,_ =>
        have Hi:=Hi 11 rfl
        have x8:a.tmps[56]? = some (.string qq):=HI.out.at (i:=8) Hi.out (by kernel_rfl) (by decide)
        have x10:a.tmps[58]? = some (.string ls2):=HI.out.at (i:=10) Hi.out (by kernel_rfl) (by decide)
        clear hI hi
        refine wpOp_step rfl (fun K' hK=>?_)
        have hK:=hid hK
        go_simp
        refine(C5.out _ (HL.out _ _ HI.out.world)).mono ?_
        rintro e W' ⟨rfl,hb⟩
        exact hK.out _ _ (HI.out.put Hi.out (by simp) rfl rfl (by simp) (by rw[aM (by decide) (by decide)];exact HI.out.world.call hb))
      | 12,_ =>
        have Hi:=Hi 12 rfl
        have y5:a.tmps[5]? = some (.pointer (some ⟨w.heap.size+1+1+1,0,none⟩)):=HI.out.rest 5 (Or.inl (by decide))
        clear hI hi
        refine wpOp_step rfl (fun K' hK=>?_)
        have hK:=hid hK
        go_simp
        exact hK.out _ _ (HI.out.put Hi.out (by simp) rfl rfl (by simp) (by rw[aM (by decide) (by decide)];exact HI.out.world))
      | 13,_ =>
        have Hi:=Hi 13 rfl
        have x12:a.tmps[60]? = some (.pointer (some ⟨w.heap.size+1+1+1,1,none⟩)):=HI.out.at (i:=12) Hi.out (by kernel_rfl) (by decide)
        have n16:listed.getD 16 false=false:=HI.out.not (i:=13) (j:=16) (by kernel_rfl) (bP Hi.out)
        have z0:W.cell? ⟨w.heap.size+1+1+1,1,none⟩=some (.string bb2):=by
         have h:=HI.out.world.facts.2.2.2.1.2.1
         simpa [Fl,n16] using h
        clear hI hi
        refine wpOp_step rfl (fun K' hK=>?_)
        have hK:=hid hK
        go_simp
        exact hK.out _ _ (HI.out.put Hi.out (by simp) rfl rfl (by simp) (by rw[aM (by decide) (by decide)];exact HI.out.world))
      | 14,_ =>
        have Hi:=Hi 14 rfl
        have x11:a.tmps[59]? = some (.string tc):=HI.out.at (i:=11) Hi.out (by kernel_rfl) (by decide)
        have x13:a.tmps[61]? = some (.string bb2):=HI.out.at (i:=13) Hi.out (by kernel_rfl) (by decide)
        clear hI hi
        refine wpOp_step rfl (fun K' hK=>?_)
        have hK:=hid hK
        go_simp
        refine(C6.out _ (HL.out _ _ HI.out.world)).mono ?_
        rintro e W' ⟨rfl,hb⟩
        exact hK.out _ _ (HI.out.put Hi.out (by simp) rfl rfl (by simp) (by rw[aM (by decide) (by decide)];exact HI.out.world.call hb))
      | 15,_ =>
        have Hi:=Hi 15 rfl
        have x7:a.tmps[55]? = some (.string sP):=HI.out.at (i:=7) Hi.out (by kernel_rfl) (by decide)
        have x14:a.tmps[62]? = some (.string sD):=HI.out.at (i:=14) Hi.out (by kernel_rfl) (by decide)
        clear hI hi
        refine wpOp_step rfl (fun K' hK=>?_)
        have hK:=hid hK
        go_simp
        exact hK.out _ _ (HI.out.put Hi.out (by simp) rfl rfl (by simp) (by rw[aM (by decide) (by decide)];exact HI.out.world))
      | 16,_ =>
        have Hi:=Hi 16 rfl
        have y5:a.tmps[5]? = some (.pointer (some ⟨w.heap.size+1+1+1,0,none⟩)):=HI.out.rest 5 (Or.inl (by decide))
        have x0:a.tmps[48]? = some (.agg #[.string ls1,.string ls2]):=HI.out.at (i:=0) Hi.out (by kernel_rfl) (by decide)
        obtain⟨m0,m1,m2,m3⟩:=HI.out.world.facts.2.2.2.1
        have mz:=HI.out.world.2.1
        have hsz:listed.size=18:=HI.out.size
        clear hI hi
        refine wpOp_step rfl (fun K' hK=>?_)
        have hK:=hid hK
        go_simp
        exact hK.out _ _ (HI.out.skip (v:=undef) Hi.out (by decide) (by rw[z2X hsz];exact HI.out.world.store 3 (by decide) _ _))
      | 17,_ =>
        have Hi:=Hi 17 rfl
        have y6:a.tmps[6]? = some (.pointer (some ⟨w.heap.size+1+1+1+1,0,none⟩)):=HI.out.rest 6 (Or.inl (by decide))
        have x15:a.tmps[63]? = some (.agg #[.string sP,.string sD]):=HI.out.at (i:=15) Hi.out (by kernel_rfl) (by decide)
        obtain⟨m0,m1,m2,m3⟩:=HI.out.world.facts.2.2.2.2
        have mz:=HI.out.world.2.1
        have hsz:listed.size=18:=HI.out.size
        clear hI hi
        refine wpOp_step rfl (fun K' hK=>?_)
        have hK:=hid hK
        go_simp
        exact hK.out _ _ (HI.out.skip (v:=undef) Hi.out (by decide) (by rw[z2W hsz];exact HI.out.world.store 4 (by decide) _ _))
      | n+18,h=>exact absurd h (by simp)
    intro listed a w3 hI h0
    have hall:=eu hI.size (by kernel_rfl) h0
    have ea:=hI.finish hall (by decide) [.agg #[.string ls1,.string ls2],.string qq,.pointer (some ⟨w.heap.size+1+1+1+1,0,none⟩),.string ls1,.string ta,.pointer (some ⟨w.heap.size+1+1+1,0,none⟩),.string bb1,.string sP,.string qq,.pointer (some ⟨w.heap.size+1+1+1+1,1,none⟩),.string ls2,.string tc,.pointer (some ⟨w.heap.size+1+1+1,1,none⟩),.string bb2,.string sD,.agg #[.string sP,.string sD]] rfl (fun i hi=>by
        match i,hi with
        | 0,_=>rfl
        | 1,_=>rfl
        | 2,_=>rfl
        | 3,_=>rfl
        | 4,_=>rfl
        | 5,_=>rfl
        | 6,_=>rfl
        | 7,_=>rfl
        | 8,_=>rfl
        | 9,_=>rfl
        | 10,_=>rfl
        | 11,_=>rfl
        | 12,_=>rfl
        | 13,_=>rfl
        | 14,_=>rfl
        | 15,_=>rfl
        | n+16,h=>omega) (by simp)
    subst ea
    have M3:Mem w w3 (fun k=>if k=3 then (ls1,ls2) else if k=4 then (sP,sD) else (fun k=>if k=0 then (l1,l2) else if k=1 then (h1,h2) else (⟨#[]⟩,⟨#[]⟩)) k):=by
        have h:=hI.world
        rwa [show(Fl (fun k=>if k=0 then (l1,l2) else if k=1 then (h1,h2) else (⟨#[]⟩,⟨#[]⟩)) (bb1,bb2) (ls1,ls2) (sP,sD)) listed=(fun k=>if k=3 then (ls1,ls2) else if k=4 then (sP,sD) else (fun k=>if k=0 then (l1,l2) else if k=1 then (h1,h2) else (⟨#[]⟩,⟨#[]⟩)) k) from by
         funext k;unfold Fl;rw[hall 16 (by decide),hall 17 (by decide)];rfl]at h
    have M3:=hid M3
    clear hI h0 hall
    simp only[puts,List.setIfInBounds_toArray,List.set_cons_zero,List.set_cons_succ]
    obtain⟨⟨k0a,k0b,k0c,k0d⟩,⟨k1a,k1b,k1c,k1d⟩,⟨k2a,k2b,k2c,k2d⟩,⟨k3a,k3b,k3c,k3d⟩,⟨k4a,k4b,k4c,k4d⟩⟩:=M3.out.facts
    have kz:=M3.out.2.1
    go_wp2_with fail
    obtain⟨m0,m1,_,_⟩:(w3.cell? ⟨w.heap.size+1+1,0,none⟩=some (.string ⟨#[]⟩)∧w3.cell? ⟨w.heap.size+1+1,1,none⟩=some (.string ⟨#[]⟩)∧_∧_):=M3.out.facts.2.2.1
    refine bodyPost_ret (v:=.agg #[.string sP,.string sD]) (by simp[results,Tryz.results72,go_sem,m0,m1]) rfl ⟨rfl,?_⟩
    exact(M3.out.1.setCell (p:=⟨w.heap.size+1+1,0,none⟩) (by show w.heap.size≤w.heap.size+1+1;omega) _).setCell (p:=⟨w.heap.size+1+1,1,none⟩) (by show w.heap.size≤w.heap.size+1+1;omega) _
  · by_cases hqq2:n1 / d1=n2 / d2
    · obtain⟨f1,f2⟩:=hI.out.2.next h0 hqq2
      have f3:=f1.bounds
      rw[← hqq2]at c2
      have e1:n1 / d1*g1+b1≤M:=by omega
      have e2:n1 / d1*g2+b2≤M:=by omega
      have c3:=HTT.out (n1 / d1) g1 ((n1 / d1)*g1) rfl kb5 kb1 (by omega)
      have c4:=HPP.out ((n1 / d1)*g1) b1 ((n1 / d1)*g1+b1) rfl (by omega) kb2 e1
      have c5:=HTT.out (n1 / d1) g2 ((n1 / d1)*g2) rfl kb5 kb3 (by omega)
      have c6:=HPP.out ((n1 / d1)*g2) b2 ((n1 / d1)*g2+b2) rfl (by omega) kb4 e2
      have z0:((Sz ((n1%d1:Nat):Int)).toList==[48])=false:=uo (by omega)
      obtain⟨l1,hl1⟩:∃ x,x=(Sz ((n1:Nat):Int)):=⟨_,rfl⟩
      obtain⟨l2,hl2⟩:∃ x,x=(Sz ((d1:Nat):Int)):=⟨_,rfl⟩
      obtain⟨h1,hh1⟩:∃ x,x=(Sz ((n2:Nat):Int)):=⟨_,rfl⟩
      obtain⟨h2,hh2⟩:∃ x,x=(Sz ((d2:Nat):Int)):=⟨_,rfl⟩
      obtain⟨bb1,hbb1⟩:∃ x,x=(Sz ((b1:Nat):Int)):=⟨_,rfl⟩
      obtain⟨bb2,hbb2⟩:∃ x,x=(Sz ((b2:Nat):Int)):=⟨_,rfl⟩
      obtain⟨ls1,hls1⟩:∃ x,x=(Sz ((g1:Nat):Int)):=⟨_,rfl⟩
      obtain⟨ls2,hls2⟩:∃ x,x=(Sz ((g2:Nat):Int)):=⟨_,rfl⟩
      obtain⟨qq,hqq⟩:∃ x,x=(Sz ((n1 / d1:Nat):Int)):=⟨_,rfl⟩
      obtain⟨rr,hrr⟩:∃ x,x=(Sz ((n1%d1:Nat):Int)):=⟨_,rfl⟩
      obtain⟨rh,hrh⟩:∃ x,x=(Sz ((n2%d2:Nat):Int)):=⟨_,rfl⟩
      obtain⟨ta,hta⟩:∃ x,x=(Sz (((n1 / d1)*g1:Nat):Int)):=⟨_,rfl⟩
      obtain⟨tc,htc⟩:∃ x,x=(Sz (((n1 / d1)*g2:Nat):Int)):=⟨_,rfl⟩
      obtain⟨nb,hnb⟩:∃ x,x=(Sz (((n1 / d1)*g1+b1:Nat):Int)):=⟨_,rfl⟩
      obtain⟨nd,hnd⟩:∃ x,x=(Sz (((n1 / d1)*g2+b2:Nat):Int)):=⟨_,rfl⟩
      have hM:=hM.out
      simp only[← hl1,← hl2,← hh1,← hh2,← hbb1,← hbb2,← hls1,← hls2,← hqq,← hrr,← hrh,← hta,← htc,← hnb,← hnd]at c1 c2 c3 c4 c5 c6 hM z0
      have M0:=hid hM
      have C1:=hid c1
      have C2:=hid c2
      have C3:=hid c3
      have C4:=hid c4
      have C5:=hid c5
      have C6:=hid c6
      have EQ:=hid (And.intro hl1 ( And.intro hl2 ( And.intro hh1 ( And.intro hh2 ( And.intro hbb1 ( And.intro hbb2 ( And.intro hls1 ( And.intro hls2 ( And.intro hqq ( And.intro hrr ( And.intro hrh ( And.intro hta ( And.intro htc ( And.intro hnb (hnd)))))))))))))))
      clear hM c1 c2 c3 c4 c5 c6 hl1 hl2 hh1 hh2 hbb1 hbb2 hls1 hls2 hqq hrr hrh hta htc hnb hnd
      have HN:=hid f1
      have HI2:=hid (And.intro hI.out.1 f2)
      clear hI kb1 kb2 kb3 kb4 kb5 kb6 kb7 kb8 i1 i2 i3 i4 i5 i6 i7 i8 f1 f2 f3 e1 e2 h0 hqq2
      obtain⟨⟨k0a,k0b,k0c,k0d⟩,⟨k1a,k1b,k1c,k1d⟩,⟨k2a,k2b,k2c,k2d⟩,⟨k3a,k3b,k3c,k3d⟩,⟨k4a,k4b,k4c,k4d⟩⟩:=M0.out.facts
      have kz:=M0.out.2.1
      go_wp2_with fail
      refine(C1.out _ (HL.out _ _ M0.out)).mono ?_
      rintro e w1 ⟨rfl,hb⟩
      have M1:=hid (M0.out.call hb)
      clear hb k0a k0b k0c k0d k1a k1b k1c k1d k2a k2b k2c k2d k3a k3b k3c k3d k4a k4b k4c k4d kz
      obtain⟨⟨k0a,k0b,k0c,k0d⟩,⟨k1a,k1b,k1c,k1d⟩,⟨k2a,k2b,k2c,k2d⟩,⟨k3a,k3b,k3c,k3d⟩,⟨k4a,k4b,k4c,k4d⟩⟩:=M1.out.facts
      have kz:=M1.out.2.1
      go_wp2_with fail
      refine(C2.out _ (HL.out _ _ M1.out)).mono ?_
      rintro e w2 ⟨rfl,hb⟩
      have M2:=hid (M1.out.call hb)
      clear hb k0a k0b k0c k0d k1a k1b k1c k1d k2a k2b k2c k2d k3a k3b k3c k3d k4a k4b k4c k4d kz
      obtain⟨⟨k0a,k0b,k0c,k0d⟩,⟨k1a,k1b,k1c,k1d⟩,⟨k2a,k2b,k2c,k2d⟩,⟨k3a,k3b,k3c,k3d⟩,⟨k4a,k4b,k4c,k4d⟩⟩:=M2.out.facts
      have kz:=M2.out.2.1
      go_upto_region 7 with fail
      refine dL (by kernel_rfl) (SInv _ 48 16 (Vl qq (w.heap.size+1+1+1) (w.heap.size+1+1+1+1) (bb1,bb2) (ls1,ls2) ta nb tc nd) _ (fun L W=>Mem w W ((Fl (fun k=>if k=0 then (l1,l2) else if k=1 then (h1,h2) else (⟨#[]⟩,⟨#[]⟩)) (bb1,bb2) (ls1,ls2) (nb,nd)) L))) (SInv.start ?s2) ?_ ?_
      case s2 =>
       have h:=M2.out.drew
       rw[show(Fl (fun k=>if k=0 then (l1,l2) else if k=1 then (h1,h2) else (⟨#[]⟩,⟨#[]⟩)) (bb1,bb2) (ls1,ls2) (nb,nd)) (Array.replicate _ false)=(fun k=>if k=3 then (bb1,bb2) else if k=4 then (ls1,ls2) else (fun k=>if k=0 then (l1,l2) else if k=1 then (h1,h2) else (⟨#[]⟩,⟨#[]⟩)) k) from ?e2]
       · exact h
       case e2=>funext k;unfold Fl;by_cases h3:k=3<;>by_cases h4:k=4<;>simp[h3,h4]
      · intro listed a W i hI hi
        have hlt:=eF hi
        have HI:=hid hI
        have Hi:=fun(j:Nat) (h:i=j)=>(hid (h▸hi):Hid (j∈_))
        clear k0a k0b k0c k0d k1a k1b k1c k1d k2a k2b k2c k2d k3a k3b k3c k3d k4a k4b k4c k4d kz
        match i,hlt with
        | 0,_ =>
          have Hi:=Hi 0 rfl
          have y6:a.tmps[6]? = some (.pointer (some ⟨w.heap.size+1+1+1+1,0,none⟩)):=HI.out.rest 6 (Or.inl (by decide))
          have n17:listed.getD 17 false=false:=HI.out.not (i:=0) (j:=17) (by kernel_rfl) (bP Hi.out)
          have z0:W.cell? ⟨w.heap.size+1+1+1+1,0,none⟩=some (.string ls1):=by
           have h:=HI.out.world.facts.2.2.2.2.1
           simpa [Fl,n17] using h
          have z1:W.cell? ⟨w.heap.size+1+1+1+1,1,none⟩=some (.string ls2):=by
           have h:=HI.out.world.facts.2.2.2.2.2.1
           simpa [Fl,n17] using h
          clear hI hi
          refine wpOp_step rfl (fun K' hK=>?_)
          have hK:=hid hK
          go_simp
          exact hK.out _ _ (HI.out.put Hi.out (by simp) rfl rfl (by simp) (by rw[aM (by decide) (by decide)];exact HI.out.world))
        | 1,_ =>
          have Hi:=Hi 1 rfl
          have y7:a.tmps[7]? = some (.string qq):=HI.out.rest 7 (Or.inl (by decide))
          clear hI hi
          refine wpOp_step rfl (fun K' hK=>?_)
          have hK:=hid hK
          go_simp
          exact hK.out _ _ (HI.out.put Hi.out (by simp) rfl rfl (by simp) (by rw[aM (by decide) (by decide)];exact HI.out.world))
        | 2,_ =>
          have Hi:=Hi 2 rfl
          have y6:a.tmps[6]? = some (.pointer (some ⟨w.heap.size+1+1+1+1,0,none⟩)):=HI.out.rest 6 (Or.inl (by decide))
          clear hI hi
          refine wpOp_step rfl (fun K' hK=>?_)
          have hK:=hid hK
          go_simp
          exact hK.out _ _ (HI.out.put Hi.out (by simp) rfl rfl (by simp) (by rw[aM (by decide) (by decide)];exact HI.out.world))
        | 3,_ =>
          have Hi:=Hi 3 rfl
          have x2:a.tmps[50]? = some (.pointer (some ⟨w.heap.size+1+1+1+1,0,none⟩)):=HI.out.at (i:=2) Hi.out (by kernel_rfl) (by decide)
          have n17:listed.getD 17 false=false:=HI.out.not (i:=3) (j:=17) (by kernel_rfl) (bP Hi.out)
          have z0:W.cell? ⟨w.heap.size+1+1+1+1,0,none⟩=some (.string ls1):=by
           have h:=HI.out.world.facts.2.2.2.2.1
           simpa [Fl,n17] using h
          clear hI hi
          refine wpOp_step rfl (fun K' hK=>?_)
          have hK:=hid hK
          go_simp
          exact hK.out _ _ (HI.out.put Hi.out (by simp) rfl rfl (by simp) (by rw[aM (by decide) (by decide)];exact HI.out.world))
        | 4,_ =>
          have Hi:=Hi 4 rfl
          have x1:a.tmps[49]? = some (.string qq):=HI.out.at (i:=1) Hi.out (by kernel_rfl) (by decide)
          have x3:a.tmps[51]? = some (.string ls1):=HI.out.at (i:=3) Hi.out (by kernel_rfl) (by decide)
          clear hI hi
          refine wpOp_step rfl (fun K' hK=>?_)
          have hK:=hid hK
          go_simp
          refine(C3.out _ (HL.out _ _ HI.out.world)).mono ?_
          rintro e W' ⟨rfl,hb⟩
          exact hK.out _ _ (HI.out.put Hi.out (by simp) rfl rfl (by simp) (by rw[aM (by decide) (by decide)];exact HI.out.world.call hb))
        | 5,_ =>
          have Hi:=Hi 5 rfl
          have y5:a.tmps[5]? = some (.pointer (some ⟨w.heap.size+1+1+1,0,none⟩)):=HI.out.rest 5 (Or.inl (by decide))
          clear hI hi
          refine wpOp_step rfl (fun K' hK=>?_)
          have hK:=hid hK
          go_simp
          exact hK.out _ _ (HI.out.put Hi.out (by simp) rfl rfl (by simp) (by rw[aM (by decide) (by decide)];exact HI.out.world))
        | 6,_ =>
          have Hi:=Hi 6 rfl
          have x5:a.tmps[53]? = some (.pointer (some ⟨w.heap.size+1+1+1,0,none⟩)):=HI.out.at (i:=5) Hi.out (by kernel_rfl) (by decide)
          have n16:listed.getD 16 false=false:=HI.out.not (i:=6) (j:=16) (by kernel_rfl) (bP Hi.out)
          have z0:W.cell? ⟨w.heap.size+1+1+1,0,none⟩=some (.string bb1):=by
           have h:=HI.out.world.facts.2.2.2.1.1
           simpa [Fl,n16] using h
          clear hI hi
          refine wpOp_step rfl (fun K' hK=>?_)
          have hK:=hid hK
          go_simp
          exact hK.out _ _ (HI.out.put Hi.out (by simp) rfl rfl (by simp) (by rw[aM (by decide) (by decide)];exact HI.out.world))
        | 7,_ =>
          have Hi:=Hi 7 rfl
          have x4:a.tmps[52]? = some (.string ta):=HI.out.at (i:=4) Hi.out (by kernel_rfl) (by decide)
          have x6:a.tmps[54]? = some (.string bb1):=HI.out.at (i:=6) Hi.out (by kernel_rfl) (by decide)
          clear hI hi
          refine wpOp_step rfl (fun K' hK=>?_)
          have hK:=hid hK
          go_simp
          refine(C4.out _ (HL.out _ _ HI.out.world)).mono ?_
          rintro e W' ⟨rfl,hb⟩
          exact hK.out _ _ (HI.out.put Hi.out (by simp) rfl rfl (by simp) (by rw[aM (by decide) (by decide)];exact HI.out.world.call hb))
        | 8,_ =>
          have Hi:=Hi 8 rfl
          have y7:a.tmps[7]? = some (.string qq):=HI.out.rest 7 (Or.inl (by decide))
          clear hI hi
          refine wpOp_step rfl (fun K' hK=>?_)
          have hK:=hid hK
          go_simp
          exact hK.out _ _ (HI.out.put Hi.out (by simp) rfl rfl (by simp) (by rw[aM (by decide) (by decide)];exact HI.out.world))
        | 9,_ =>
          have Hi:=Hi 9 rfl
          have y6:a.tmps[6]? = some (.pointer (some ⟨w.heap.size+1+1+1+1,0,none⟩)):=HI.out.rest 6 (Or.inl (by decide))
          clear hI hi
          refine wpOp_step rfl (fun K' hK=>?_)
          have hK:=hid hK
          go_simp
          exact hK.out _ _ (HI.out.put Hi.out (by simp) rfl rfl (by simp) (by rw[aM (by decide) (by decide)];exact HI.out.world))
        | 10,_ =>
          have Hi:=Hi 10 rfl
          have x9:a.tmps[57]? = some (.pointer (some ⟨w.heap.size+1+1+1+1,1,none⟩)):=HI.out.at (i:=9) Hi.out (by kernel_rfl) (by decide)
          have n17:listed.getD 17 false=false:=HI.out.not (i:=10) (j:=17) (by kernel_rfl) (bP Hi.out)
          have z0:W.cell? ⟨w.heap.size+1+1+1+1,1,none⟩=some (.string ls2):=by
           have h:=HI.out.world.facts.2.2.2.2.2.1
           simpa [Fl,n17] using h
          clear hI hi
          refine wpOp_step rfl (fun K' hK=>?_)
          have hK:=hid hK
          go_simp
          exact hK.out _ _ (HI.out.put Hi.out (by simp) rfl rfl (by simp) (by rw[aM (by decide) (by decide)];exact HI.out.world))
        | 11,_ =>
          have Hi:=Hi 11 rfl
          have x8:a.tmps[56]? = some (.string qq):=HI.out.at (i:=8) Hi.out (by kernel_rfl) (by decide)
          have x10:a.tmps[58]? = some (.string ls2):=HI.out.at (i:=10) Hi.out (by kernel_rfl) (by decide)
          clear hI hi
          refine wpOp_step rfl (fun K' hK=>?_)
          have hK:=hid hK
          go_simp
          refine(C5.out _ (HL.out _ _ HI.out.world)).mono ?_
          rintro e W' ⟨rfl,hb⟩
          exact hK.out _ _ (HI.out.put Hi.out (by simp) rfl rfl (by simp) (by rw[aM (by decide) (by decide)];exact HI.out.world.call hb))
        | 12,_ =>
          have Hi:=Hi 12 rfl
          have y5:a.tmps[5]? = some (.pointer (some ⟨w.heap.size+1+1+1,0,none⟩)):=HI.out.rest 5 (Or.inl (by decide))
          clear hI hi
          refine wpOp_step rfl (fun K' hK=>?_)
          have hK:=hid hK
          go_simp
          exact hK.out _ _ (HI.out.put Hi.out (by simp) rfl rfl (by simp) (by rw[aM (by decide) (by decide)];exact HI.out.world))
        | 13,_ =>
          have Hi:=Hi 13 rfl
          have x12:a.tmps[60]? = some (.pointer (some ⟨w.heap.size+1+1+1,1,none⟩)):=HI.out.at (i:=12) Hi.out (by kernel_rfl) (by decide)
          have n16:listed.getD 16 false=false:=HI.out.not (i:=13) (j:=16) (by kernel_rfl) (bP Hi.out)
          have z0:W.cell? ⟨w.heap.size+1+1+1,1,none⟩=some (.string bb2):=by
           have h:=HI.out.world.facts.2.2.2.1.2.1
           simpa [Fl,n16] using h
          clear hI hi
          refine wpOp_step rfl (fun K' hK=>?_)
          have hK:=hid hK
          go_simp
          exact hK.out _ _ (HI.out.put Hi.out (by simp) rfl rfl (by simp) (by rw[aM (by decide) (by decide)];exact HI.out.world))
        | 14,_ =>
          have Hi:=Hi 14 rfl
          have x11:a.tmps[59]? = some (.string tc):=HI.out.at (i:=11) Hi.out (by kernel_rfl) (by decide)
          have x13:a.tmps[61]? = some (.string bb2):=HI.out.at (i:=13) Hi.out (by kernel_rfl) (by decide)
          clear hI hi
          refine wpOp_step rfl (fun K' hK=>?_)
          have hK:=hid hK
          go_simp
          refine(C6.out _ (HL.out _ _ HI.out.world)).mono ?_
          rintro e W' ⟨rfl,hb⟩
          exact hK.out _ _ (HI.out.put Hi.out (by simp) rfl rfl (by simp) (by rw[aM (by decide) (by decide)];exact HI.out.world.call hb))
        | 15,_ =>
          have Hi:=Hi 15 rfl
          have x7:a.tmps[55]? = some (.string nb):=HI.out.at (i:=7) Hi.out (by kernel_rfl) (by decide)
          have x14:a.tmps[62]? = some (.string nd):=HI.out.at (i:=14) Hi.out (by kernel_rfl) (by decide)
          clear hI hi
          refine wpOp_step rfl (fun K' hK=>?_)
          have hK:=hid hK
          go_simp
          exact hK.out _ _ (HI.out.put Hi.out (by simp) rfl rfl (by simp) (by rw[aM (by decide) (by decide)];exact HI.out.world))
        | 16,_ =>
          have Hi:=Hi 16 rfl
          have y5:a.tmps[5]? = some (.pointer (some ⟨w.heap.size+1+1+1,0,none⟩)):=HI.out.rest 5 (Or.inl (by decide))
          have x0:a.tmps[48]? = some (.agg #[.string ls1,.string ls2]):=HI.out.at (i:=0) Hi.out (by kernel_rfl) (by decide)
          obtain⟨m0,m1,m2,m3⟩:=HI.out.world.facts.2.2.2.1
          have mz:=HI.out.world.2.1
          have hsz:listed.size=18:=HI.out.size
          clear hI hi
          refine wpOp_step rfl (fun K' hK=>?_)
          have hK:=hid hK
          go_simp
          exact hK.out _ _ (HI.out.skip (v:=undef) Hi.out (by decide) (by rw[z2X hsz];exact HI.out.world.store 3 (by decide) _ _))
        | 17,_ =>
          have Hi:=Hi 17 rfl
          have y6:a.tmps[6]? = some (.pointer (some ⟨w.heap.size+1+1+1+1,0,none⟩)):=HI.out.rest 6 (Or.inl (by decide))
          have x15:a.tmps[63]? = some (.agg #[.string nb,.string nd]):=HI.out.at (i:=15) Hi.out (by kernel_rfl) (by decide)
          obtain⟨m0,m1,m2,m3⟩:=HI.out.world.facts.2.2.2.2
          have mz:=HI.out.world.2.1
          have hsz:listed.size=18:=HI.out.size
          clear hI hi
          refine wpOp_step rfl (fun K' hK=>?_)
          have hK:=hid hK
          go_simp
          exact hK.out _ _ (HI.out.skip (v:=undef) Hi.out (by decide) (by rw[z2W hsz];exact HI.out.world.store 4 (by decide) _ _))
        | n+18,h=>exact absurd h (by simp)
      intro listed a w3 hI h0
      have hall:=eu hI.size (by kernel_rfl) h0
      have ea:=hI.finish hall (by decide) [.agg #[.string ls1,.string ls2],.string qq,.pointer (some ⟨w.heap.size+1+1+1+1,0,none⟩),.string ls1,.string ta,.pointer (some ⟨w.heap.size+1+1+1,0,none⟩),.string bb1,.string nb,.string qq,.pointer (some ⟨w.heap.size+1+1+1+1,1,none⟩),.string ls2,.string tc,.pointer (some ⟨w.heap.size+1+1+1,1,none⟩),.string bb2,.string nd,.agg #[.string nb,.string nd]] rfl (fun i hi=>by
       match i,hi with
       | 0,_=>rfl
       | 1,_=>rfl
       | 2,_=>rfl
       | 3,_=>rfl
       | 4,_=>rfl
       | 5,_=>rfl
       | 6,_=>rfl
       | 7,_=>rfl
       | 8,_=>rfl
       | 9,_=>rfl
       | 10,_=>rfl
       | 11,_=>rfl
       | 12,_=>rfl
       | 13,_=>rfl
       | 14,_=>rfl
       | 15,_=>rfl
       | n+16,h=>omega) (by simp)
      subst ea
      have M3:Mem w w3 (fun k=>if k=3 then (ls1,ls2) else if k=4 then (nb,nd) else (fun k=>if k=0 then (l1,l2) else if k=1 then (h1,h2) else (⟨#[]⟩,⟨#[]⟩)) k):=by
       have h:=hI.world
       rwa [show(Fl (fun k=>if k=0 then (l1,l2) else if k=1 then (h1,h2) else (⟨#[]⟩,⟨#[]⟩)) (bb1,bb2) (ls1,ls2) (nb,nd)) listed=(fun k=>if k=3 then (ls1,ls2) else if k=4 then (nb,nd) else (fun k=>if k=0 then (l1,l2) else if k=1 then (h1,h2) else (⟨#[]⟩,⟨#[]⟩)) k) from by
        funext k;unfold Fl;rw[hall 16 (by decide),hall 17 (by decide)];rfl]at h
      have M3:=hid M3
      clear hI h0 hall
      simp only[puts,List.setIfInBounds_toArray,List.set_cons_zero,List.set_cons_succ]
      obtain⟨⟨k0a,k0b,k0c,k0d⟩,⟨k1a,k1b,k1c,k1d⟩,⟨k2a,k2b,k2c,k2d⟩,⟨k3a,k3b,k3c,k3d⟩,⟨k4a,k4b,k4c,k4d⟩⟩:=M3.out.facts
      have kz:=M3.out.2.1
      go_wp2
      go_roundg (n2%d2+n1%d1)
      case measure=>have h1:=HI2.out.1;have h2:=HI2.out.2;omega
      case rel =>
       have M5:Mem w ((((w3.setCell ⟨w.heap.size,0,none⟩ (.string h2)).setCell ⟨w.heap.size,1,none⟩ (.string rh)).setCell ⟨w.heap.size+1,0,none⟩ (.string l2)).setCell ⟨w.heap.size+1,1,none⟩ (.string rr)) (fun k=>if k=3 then (ls1,ls2) else if k=4 then (nb,nd) else (fun k=>if k=0 then (h2,rh) else if k=1 then (l2,rr) else (⟨#[]⟩,⟨#[]⟩)) k):=by
        have h:=(M3.out.store 0 (by decide) h2 rh).store 1 (by decide) l2 rr
        rw[show upd (upd _ _ _ _) _ _ _=(fun k=>if k=3 then (ls1,ls2) else if k=4 then (nb,nd) else (fun k=>if k=0 then (h2,rh) else if k=1 then (l2,rr) else (⟨#[]⟩,⟨#[]⟩)) k) from by
         funext k;unfold upd
         match k with
         | 0=>rfl
         | 1=>rfl
         | 2=>rfl
         | 3=>rfl
         | 4=>rfl
         | n+5=>simp]at h
        exact h
       refine⟨d2,n2%d2,d1,n1%d1,g1,g2,n1 / d1*g1+b1,n1 / d1*g2+b2,hid ⟨rfl,HN.out⟩,hid ?_⟩
       obtain⟨rfl,rfl,rfl,rfl,rfl,rfl,rfl,rfl,rfl,rfl,rfl,rfl,rfl,rfl,rfl⟩:=EQ.out
       exact M5
    · obtain⟨f1,f2,f3⟩:=hI.out.2.endB h0 hqq2
      have cB:=HPP.out (n1 / d1) 1 (n1 / d1+1) rfl kb5 (by omega) f3
      have c3:=HTT.out (n1 / d1+1) g1 ((n1 / d1+1)*g1) rfl f3 kb1 (by omega)
      have c4:=HPP.out ((n1 / d1+1)*g1) b1 (P) f1 (by omega) kb2 i7
      have c5:=HTT.out (n1 / d1+1) g2 ((n1 / d1+1)*g2) rfl f3 kb3 (by omega)
      have c6:=HPP.out ((n1 / d1+1)*g2) b2 (D) f2 (by omega) kb4 i8
      have z0:((Sz ((n1%d1:Nat):Int)).toList==[48])=false:=uo (by omega)
      have z1:((Sz ((n1 / d1:Nat):Int)).toList==(Sz ((n2 / d2:Nat):Int)).toList)=false:=yH (by omega)
      obtain⟨l1,hl1⟩:∃ x,x=(Sz ((n1:Nat):Int)):=⟨_,rfl⟩
      obtain⟨l2,hl2⟩:∃ x,x=(Sz ((d1:Nat):Int)):=⟨_,rfl⟩
      obtain⟨h1,hh1⟩:∃ x,x=(Sz ((n2:Nat):Int)):=⟨_,rfl⟩
      obtain⟨h2,hh2⟩:∃ x,x=(Sz ((d2:Nat):Int)):=⟨_,rfl⟩
      obtain⟨bb1,hbb1⟩:∃ x,x=(Sz ((b1:Nat):Int)):=⟨_,rfl⟩
      obtain⟨bb2,hbb2⟩:∃ x,x=(Sz ((b2:Nat):Int)):=⟨_,rfl⟩
      obtain⟨ls1,hls1⟩:∃ x,x=(Sz ((g1:Nat):Int)):=⟨_,rfl⟩
      obtain⟨ls2,hls2⟩:∃ x,x=(Sz ((g2:Nat):Int)):=⟨_,rfl⟩
      obtain⟨qq,hqq⟩:∃ x,x=(Sz ((n1 / d1:Nat):Int)):=⟨_,rfl⟩
      obtain⟨rr,hrr⟩:∃ x,x=(Sz ((n1%d1:Nat):Int)):=⟨_,rfl⟩
      obtain⟨qh,hqh⟩:∃ x,x=(Sz ((n2 / d2:Nat):Int)):=⟨_,rfl⟩
      obtain⟨rh,hrh⟩:∃ x,x=(Sz ((n2%d2:Nat):Int)):=⟨_,rfl⟩
      obtain⟨ta,hta⟩:∃ x,x=(Sz (((n1 / d1+1)*g1:Nat):Int)):=⟨_,rfl⟩
      obtain⟨tc,htc⟩:∃ x,x=(Sz (((n1 / d1+1)*g2:Nat):Int)):=⟨_,rfl⟩
      obtain⟨qw,hqw⟩:∃ x,x=(Sz ((n1 / d1+1:Nat):Int)):=⟨_,rfl⟩
      have hM:=hM.out
      obtain⟨hsP,hsD⟩:=HSP.out
      simp only[← hl1,← hl2,← hh1,← hh2,← hbb1,← hbb2,← hls1,← hls2,← hqq,← hrr,← hqh,← hrh,← hta,← htc,← hqw,← hsP,← hsD]at c1 c2 c3 c4 c5 c6 hM z0 z1 cB
      rw[show(Sz ((1:Nat):Int))=⟨#[49]⟩from iT]at cB
      have CB:=hid cB
      clear cB
      have M0:=hid hM
      have C1:=hid c1
      have C2:=hid c2
      have C3:=hid c3
      have C4:=hid c4
      have C5:=hid c5
      have C6:=hid c6
      have EQ:=hid (And.intro hl1 ( And.intro hl2 ( And.intro hh1 ( And.intro hh2 ( And.intro hbb1 ( And.intro hbb2 ( And.intro hls1 ( And.intro hls2 ( And.intro hqq ( And.intro hrr ( And.intro hqh ( And.intro hrh ( And.intro hta ( And.intro htc (hqw)))))))))))))))
      clear hM c1 c2 c3 c4 c5 c6 hl1 hl2 hh1 hh2 hbb1 hbb2 hls1 hls2 hqq hrr hqh hrh hta htc hqw hsP hsD
      have HN:=hid hI.out
      clear hI kb1 kb2 kb3 kb4 kb5 kb6 kb7 kb8 i1 i2 i3 i4 i5 i6 i7 i8 f1 f2 f3 h0 hqq2
      obtain⟨⟨k0a,k0b,k0c,k0d⟩,⟨k1a,k1b,k1c,k1d⟩,⟨k2a,k2b,k2c,k2d⟩,⟨k3a,k3b,k3c,k3d⟩,⟨k4a,k4b,k4c,k4d⟩⟩:=M0.out.facts
      have kz:=M0.out.2.1
      go_wp2_with fail
      refine(C1.out _ (HL.out _ _ M0.out)).mono ?_
      rintro e w1 ⟨rfl,hb⟩
      have M1:=hid (M0.out.call hb)
      clear hb k0a k0b k0c k0d k1a k1b k1c k1d k2a k2b k2c k2d k3a k3b k3c k3d k4a k4b k4c k4d kz
      obtain⟨⟨k0a,k0b,k0c,k0d⟩,⟨k1a,k1b,k1c,k1d⟩,⟨k2a,k2b,k2c,k2d⟩,⟨k3a,k3b,k3c,k3d⟩,⟨k4a,k4b,k4c,k4d⟩⟩:=M1.out.facts
      have kz:=M1.out.2.1
      go_wp2_with fail
      refine(C2.out _ (HL.out _ _ M1.out)).mono ?_
      rintro e w2 ⟨rfl,hb⟩
      have M2:=hid (M1.out.call hb)
      clear hb k0a k0b k0c k0d k1a k1b k1c k1d k2a k2b k2c k2d k3a k3b k3c k3d k4a k4b k4c k4d kz
      obtain⟨⟨k0a,k0b,k0c,k0d⟩,⟨k1a,k1b,k1c,k1d⟩,⟨k2a,k2b,k2c,k2d⟩,⟨k3a,k3b,k3c,k3d⟩,⟨k4a,k4b,k4c,k4d⟩⟩:=M2.out.facts
      have kz:=M2.out.2.1
      go_wp2_with fail
      refine(CB.out _ (HL.out _ _ M2.out)).mono ?_
      rintro e w3 ⟨rfl,hb⟩
      have M3:=hid (M2.out.call hb)
      clear hb k0a k0b k0c k0d k1a k1b k1c k1d k2a k2b k2c k2d k3a k3b k3c k3d k4a k4b k4c k4d kz
      obtain⟨⟨k0a,k0b,k0c,k0d⟩,⟨k1a,k1b,k1c,k1d⟩,⟨k2a,k2b,k2c,k2d⟩,⟨k3a,k3b,k3c,k3d⟩,⟨k4a,k4b,k4c,k4d⟩⟩:=M3.out.facts
      have kz:=M3.out.2.1
      go_upto_region 7 with fail
      refine dL (by kernel_rfl) (SInv _ 48 16 (Vl qw (w.heap.size+1+1+1) (w.heap.size+1+1+1+1) (bb1,bb2) (ls1,ls2) ta sP tc sD) _ (fun L W=>Mem w W ((Fl (fun k=>if k=0 then (l1,l2) else if k=1 then (h1,h2) else (⟨#[]⟩,⟨#[]⟩)) (bb1,bb2) (ls1,ls2) (sP,sD)) L))) (SInv.start ?s3) ?_ ?_
      case s3 =>
       have h:=M3.out.drew
       rw[show(Fl (fun k=>if k=0 then (l1,l2) else if k=1 then (h1,h2) else (⟨#[]⟩,⟨#[]⟩)) (bb1,bb2) (ls1,ls2) (sP,sD)) (Array.replicate _ false)=(fun k=>if k=3 then (bb1,bb2) else if k=4 then (ls1,ls2) else (fun k=>if k=0 then (l1,l2) else if k=1 then (h1,h2) else (⟨#[]⟩,⟨#[]⟩)) k) from ?e3]
       · exact h
       case e3=>funext k;unfold Fl;by_cases h3:k=3<;>by_cases h4:k=4<;>simp[h3,h4]
      · intro listed a W i hI hi
        have hlt:=eF hi
        have HI:=hid hI
        have Hi:=fun(j:Nat) (h:i=j)=>(hid (h▸hi):Hid (j∈_))
        clear k0a k0b k0c k0d k1a k1b k1c k1d k2a k2b k2c k2d k3a k3b k3c k3d k4a k4b k4c k4d kz
        match i,hlt with
        | 0,_ =>
          have Hi:=Hi 0 rfl
          have y6:a.tmps[6]? = some (.pointer (some ⟨w.heap.size+1+1+1+1,0,none⟩)):=HI.out.rest 6 (Or.inl (by decide))
          have n17:listed.getD 17 false=false:=HI.out.not (i:=0) (j:=17) (by kernel_rfl) (bP Hi.out)
          have z0:W.cell? ⟨w.heap.size+1+1+1+1,0,none⟩=some (.string ls1):=by
           have h:=HI.out.world.facts.2.2.2.2.1
           simpa [Fl,n17] using h
          have z1:W.cell? ⟨w.heap.size+1+1+1+1,1,none⟩=some (.string ls2):=by
           have h:=HI.out.world.facts.2.2.2.2.2.1
           simpa [Fl,n17] using h
          clear hI hi
          refine wpOp_step rfl (fun K' hK=>?_)
          have hK:=hid hK
          go_simp
          exact hK.out _ _ (HI.out.put Hi.out (by simp) rfl rfl (by simp) (by rw[aM (by decide) (by decide)];exact HI.out.world))
        | 1,_ =>
          have Hi:=Hi 1 rfl
          have y7:a.tmps[7]? = some (.string qw):=HI.out.rest 7 (Or.inl (by decide))
          clear hI hi
          refine wpOp_step rfl (fun K' hK=>?_)
          have hK:=hid hK
          go_simp
          exact hK.out _ _ (HI.out.put Hi.out (by simp) rfl rfl (by simp) (by rw[aM (by decide) (by decide)];exact HI.out.world))
        | 2,_ =>
          have Hi:=Hi 2 rfl
          have y6:a.tmps[6]? = some (.pointer (some ⟨w.heap.size+1+1+1+1,0,none⟩)):=HI.out.rest 6 (Or.inl (by decide))
          clear hI hi
          refine wpOp_step rfl (fun K' hK=>?_)
          have hK:=hid hK
          go_simp
          exact hK.out _ _ (HI.out.put Hi.out (by simp) rfl rfl (by simp) (by rw[aM (by decide) (by decide)];exact HI.out.world))
        | 3,_ =>
          have Hi:=Hi 3 rfl
          have x2:a.tmps[50]? = some (.pointer (some ⟨w.heap.size+1+1+1+1,0,none⟩)):=HI.out.at (i:=2) Hi.out (by kernel_rfl) (by decide)
          have n17:listed.getD 17 false=false:=HI.out.not (i:=3) (j:=17) (by kernel_rfl) (bP Hi.out)
          have z0:W.cell? ⟨w.heap.size+1+1+1+1,0,none⟩=some (.string ls1):=by
           have h:=HI.out.world.facts.2.2.2.2.1
           simpa [Fl,n17] using h
          clear hI hi
          refine wpOp_step rfl (fun K' hK=>?_)
          have hK:=hid hK
          go_simp
          exact hK.out _ _ (HI.out.put Hi.out (by simp) rfl rfl (by simp) (by rw[aM (by decide) (by decide)];exact HI.out.world))
        | 4,_ =>
          have Hi:=Hi 4 rfl
          have x1:a.tmps[49]? = some (.string qw):=HI.out.at (i:=1) Hi.out (by kernel_rfl) (by decide)
          have x3:a.tmps[51]? = some (.string ls1):=HI.out.at (i:=3) Hi.out (by kernel_rfl) (by decide)
          clear hI hi
          refine wpOp_step rfl (fun K' hK=>?_)
          have hK:=hid hK
          go_simp
          refine(C3.out _ (HL.out _ _ HI.out.world)).mono ?_
          rintro e W' ⟨rfl,hb⟩
          exact hK.out _ _ (HI.out.put Hi.out (by simp) rfl rfl (by simp) (by rw[aM (by decide) (by decide)];exact HI.out.world.call hb))
        | 5,_ =>
          have Hi:=Hi 5 rfl
          have y5:a.tmps[5]? = some (.pointer (some ⟨w.heap.size+1+1+1,0,none⟩)):=HI.out.rest 5 (Or.inl (by decide))
          clear hI hi
          refine wpOp_step rfl (fun K' hK=>?_)
          have hK:=hid hK
          go_simp
          exact hK.out _ _ (HI.out.put Hi.out (by simp) rfl rfl (by simp) (by rw[aM (by decide) (by decide)];exact HI.out.world))
        | 6,_ =>
          have Hi:=Hi 6 rfl
          have x5:a.tmps[53]? = some (.pointer (some ⟨w.heap.size+1+1+1,0,none⟩)):=HI.out.at (i:=5) Hi.out (by kernel_rfl) (by decide)
          have n16:listed.getD 16 false=false:=HI.out.not (i:=6) (j:=16) (by kernel_rfl) (bP Hi.out)
          have z0:W.cell? ⟨w.heap.size+1+1+1,0,none⟩=some (.string bb1):=by
           have h:=HI.out.world.facts.2.2.2.1.1
           simpa [Fl,n16] using h
          clear hI hi
          refine wpOp_step rfl (fun K' hK=>?_)
          have hK:=hid hK
          go_simp
          exact hK.out _ _ (HI.out.put Hi.out (by simp) rfl rfl (by simp) (by rw[aM (by decide) (by decide)];exact HI.out.world))
        | 7,_ =>
          have Hi:=Hi 7 rfl
          have x4:a.tmps[52]? = some (.string ta):=HI.out.at (i:=4) Hi.out (by kernel_rfl) (by decide)
          have x6:a.tmps[54]? = some (.string bb1):=HI.out.at (i:=6) Hi.out (by kernel_rfl) (by decide)
          clear hI hi
          refine wpOp_step rfl (fun K' hK=>?_)
          have hK:=hid hK
          go_simp
          refine(C4.out _ (HL.out _ _ HI.out.world)).mono ?_
          rintro e W' ⟨rfl,hb⟩
          exact hK.out _ _ (HI.out.put Hi.out (by simp) rfl rfl (by simp) (by rw[aM (by decide) (by decide)];exact HI.out.world.call hb))
        | 8,_ =>
          have Hi:=Hi 8 rfl
          have y7:a.tmps[7]? = some (.string qw):=HI.out.rest 7 (Or.inl (by decide))
          clear hI hi
          refine wpOp_step rfl (fun K' hK=>?_)
          have hK:=hid hK
          go_simp
          exact hK.out _ _ (HI.out.put Hi.out (by simp) rfl rfl (by simp) (by rw[aM (by decide) (by decide)];exact HI.out.world))
        | 9,_ =>
          have Hi:=Hi 9 rfl
          have y6:a.tmps[6]? = some (.pointer (some ⟨w.heap.size+1+1+1+1,0,none⟩)):=HI.out.rest 6 (Or.inl (by decide))
          clear hI hi
          refine wpOp_step rfl (fun K' hK=>?_)
          have hK:=hid hK
          go_simp
          exact hK.out _ _ (HI.out.put Hi.out (by simp) rfl rfl (by simp) (by rw[aM (by decide) (by decide)];exact HI.out.world))
        | 10,_ =>
          have Hi:=Hi 10 rfl
          have x9:a.tmps[57]? = some (.pointer (some ⟨w.heap.size+1+1+1+1,1,none⟩)):=HI.out.at (i:=9) Hi.out (by kernel_rfl) (by decide)
          have n17:listed.getD 17 false=false:=HI.out.not (i:=10) (j:=17) (by kernel_rfl) (bP Hi.out)
          have z0:W.cell? ⟨w.heap.size+1+1+1+1,1,none⟩=some (.string ls2):=by
           have h:=HI.out.world.facts.2.2.2.2.2.1
           simpa [Fl,n17] using h
          clear hI hi
          refine wpOp_step rfl (fun K' hK=>?_)
          have hK:=hid hK
          go_simp
          exact hK.out _ _ (HI.out.put Hi.out (by simp) rfl rfl (by simp) (by rw[aM (by decide) (by decide)];exact HI.out.world))
        | 11,_ =>
          have Hi:=Hi 11 rfl
          have x8:a.tmps[56]? = some (.string qw):=HI.out.at (i:=8) Hi.out (by kernel_rfl) (by decide)
          have x10:a.tmps[58]? = some (.string ls2):=HI.out.at (i:=10) Hi.out (by kernel_rfl) (by decide)
          clear hI hi
          refine wpOp_step rfl (fun K' hK=>?_)
          have hK:=hid hK
          go_simp
          refine(C5.out _ (HL.out _ _ HI.out.world)).mono ?_
          rintro e W' ⟨rfl,hb⟩
          exact hK.out _ _ (HI.out.put Hi.out (by simp) rfl rfl (by simp) (by rw[aM (by decide) (by decide)];exact HI.out.world.call hb))
        | 12,_ =>
          have Hi:=Hi 12 rfl
          have y5:a.tmps[5]? = some (.pointer (some ⟨w.heap.size+1+1+1,0,none⟩)):=HI.out.rest 5 (Or.inl (by decide))
          clear hI hi
          refine wpOp_step rfl (fun K' hK=>?_)
          have hK:=hid hK
          go_simp
          exact hK.out _ _ (HI.out.put Hi.out (by simp) rfl rfl (by simp) (by rw[aM (by decide) (by decide)];exact HI.out.world))
        | 13,_ =>
          have Hi:=Hi 13 rfl
          have x12:a.tmps[60]? = some (.pointer (some ⟨w.heap.size+1+1+1,1,none⟩)):=HI.out.at (i:=12) Hi.out (by kernel_rfl) (by decide)
          have n16:listed.getD 16 false=false:=HI.out.not (i:=13) (j:=16) (by kernel_rfl) (bP Hi.out)
          have z0:W.cell? ⟨w.heap.size+1+1+1,1,none⟩=some (.string bb2):=by
           have h:=HI.out.world.facts.2.2.2.1.2.1
           simpa [Fl,n16] using h
          clear hI hi
          refine wpOp_step rfl (fun K' hK=>?_)
          have hK:=hid hK
          go_simp
          exact hK.out _ _ (HI.out.put Hi.out (by simp) rfl rfl (by simp) (by rw[aM (by decide) (by decide)];exact HI.out.world))
        | 14,_ =>
          have Hi:=Hi 14 rfl
          have x11:a.tmps[59]? = some (.string tc):=HI.out.at (i:=11) Hi.out (by kernel_rfl) (by decide)
          have x13:a.tmps[61]? = some (.string bb2):=HI.out.at (i:=13) Hi.out (by kernel_rfl) (by decide)
          clear hI hi
          refine wpOp_step rfl (fun K' hK=>?_)
          have hK:=hid hK
          go_simp
          refine(C6.out _ (HL.out _ _ HI.out.world)).mono ?_
          rintro e W' ⟨rfl,hb⟩
          exact hK.out _ _ (HI.out.put Hi.out (by simp) rfl rfl (by simp) (by rw[aM (by decide) (by decide)];exact HI.out.world.call hb))
        | 15,_ =>
          have Hi:=Hi 15 rfl
          have x7:a.tmps[55]? = some (.string sP):=HI.out.at (i:=7) Hi.out (by kernel_rfl) (by decide)
          have x14:a.tmps[62]? = some (.string sD):=HI.out.at (i:=14) Hi.out (by kernel_rfl) (by decide)
          clear hI hi
          refine wpOp_step rfl (fun K' hK=>?_)
          have hK:=hid hK
          go_simp
          exact hK.out _ _ (HI.out.put Hi.out (by simp) rfl rfl (by simp) (by rw[aM (by decide) (by decide)];exact HI.out.world))
        | 16,_ =>
          have Hi:=Hi 16 rfl
          have y5:a.tmps[5]? = some (.pointer (some ⟨w.heap.size+1+1+1,0,none⟩)):=HI.out.rest 5 (Or.inl (by decide))
          have x0:a.tmps[48]? = some (.agg #[.string ls1,.string ls2]):=HI.out.at (i:=0) Hi.out (by kernel_rfl) (by decide)
          obtain⟨m0,m1,m2,m3⟩:=HI.out.world.facts.2.2.2.1
          have mz:=HI.out.world.2.1
          have hsz:listed.size=18:=HI.out.size
          clear hI hi
          refine wpOp_step rfl (fun K' hK=>?_)
          have hK:=hid hK
          go_simp
          exact hK.out _ _ (HI.out.skip (v:=undef) Hi.out (by decide) (by rw[z2X hsz];exact HI.out.world.store 3 (by decide) _ _))
        | 17,_ =>
          have Hi:=Hi 17 rfl
          have y6:a.tmps[6]? = some (.pointer (some ⟨w.heap.size+1+1+1+1,0,none⟩)):=HI.out.rest 6 (Or.inl (by decide))
          have x15:a.tmps[63]? = some (.agg #[.string sP,.string sD]):=HI.out.at (i:=15) Hi.out (by kernel_rfl) (by decide)
          obtain⟨m0,m1,m2,m3⟩:=HI.out.world.facts.2.2.2.2
          have mz:=HI.out.world.2.1
          have hsz:listed.size=18:=HI.out.size
          clear hI hi
          refine wpOp_step rfl (fun K' hK=>?_)
          have hK:=hid hK
          go_simp
          exact hK.out _ _ (HI.out.skip (v:=undef) Hi.out (by decide) (by rw[z2W hsz];exact HI.out.world.store 4 (by decide) _ _))
        | n+18,h=>exact absurd h (by simp)
      intro listed a w4 hI h0
      have hall:=eu hI.size (by kernel_rfl) h0
      have ea:=hI.finish hall (by decide) [.agg #[.string ls1,.string ls2],.string qw,.pointer (some ⟨w.heap.size+1+1+1+1,0,none⟩),.string ls1,.string ta,.pointer (some ⟨w.heap.size+1+1+1,0,none⟩),.string bb1,.string sP,.string qw,.pointer (some ⟨w.heap.size+1+1+1+1,1,none⟩),.string ls2,.string tc,.pointer (some ⟨w.heap.size+1+1+1,1,none⟩),.string bb2,.string sD,.agg #[.string sP,.string sD]] rfl (fun i hi=>by
       match i,hi with
       | 0,_=>rfl
       | 1,_=>rfl
       | 2,_=>rfl
       | 3,_=>rfl
       | 4,_=>rfl
       | 5,_=>rfl
       | 6,_=>rfl
       | 7,_=>rfl
       | 8,_=>rfl
       | 9,_=>rfl
       | 10,_=>rfl
       | 11,_=>rfl
       | 12,_=>rfl
       | 13,_=>rfl
       | 14,_=>rfl
       | 15,_=>rfl
       | n+16,h=>omega) (by simp)
      subst ea
      have M4:Mem w w4 (fun k=>if k=3 then (ls1,ls2) else if k=4 then (sP,sD) else (fun k=>if k=0 then (l1,l2) else if k=1 then (h1,h2) else (⟨#[]⟩,⟨#[]⟩)) k):=by
       have h:=hI.world
       rwa [show(Fl (fun k=>if k=0 then (l1,l2) else if k=1 then (h1,h2) else (⟨#[]⟩,⟨#[]⟩)) (bb1,bb2) (ls1,ls2) (sP,sD)) listed=(fun k=>if k=3 then (ls1,ls2) else if k=4 then (sP,sD) else (fun k=>if k=0 then (l1,l2) else if k=1 then (h1,h2) else (⟨#[]⟩,⟨#[]⟩)) k) from by
        funext k;unfold Fl;rw[hall 16 (by decide),hall 17 (by decide)];rfl]at h
      have M4:=hid M4
      clear hI h0 hall
      simp only[puts,List.setIfInBounds_toArray,List.set_cons_zero,List.set_cons_succ]
      obtain⟨⟨k0a,k0b,k0c,k0d⟩,⟨k1a,k1b,k1c,k1d⟩,⟨k2a,k2b,k2c,k2d⟩,⟨k3a,k3b,k3c,k3d⟩,⟨k4a,k4b,k4c,k4d⟩⟩:=M4.out.facts
      have kz:=M4.out.2.1
      go_wp2_with fail
      obtain⟨m0,m1,_,_⟩:(w4.cell? ⟨w.heap.size+1+1,0,none⟩=some (.string ⟨#[]⟩)∧w4.cell? ⟨w.heap.size+1+1,1,none⟩=some (.string ⟨#[]⟩)∧_∧_):=M4.out.facts.2.2.1
      refine bodyPost_ret (v:=.agg #[.string sP,.string sD]) (by simp[results,Tryz.results72,go_sem,m0,m1]) rfl ⟨rfl,?_⟩
      exact(M4.out.1.setCell (p:=⟨w.heap.size+1+1,0,none⟩) (by show w.heap.size≤w.heap.size+1+1;omega) _).setCell (p:=⟨w.heap.size+1+1,1,none⟩) (by show w.heap.size≤w.heap.size+1+1;omega) _
theorem pR (k:Nat)(hk:k≤1900)(a b:Rat)(ha:0<a.num)(hb:0<b.num)(hab:a≤b)(sa:SmQ k a)(sb:SmQ k b)(w:World)(hl:La w) :
 CR 72 #[Fv a,Fv b] w (Fv (bJ a b)):=by
 obtain⟨f1,f2,f3,f4,_,f6,_⟩:=gu ha hb hab
 have p1:=a.den_pos
 have p2:=b.den_pos
 have hpow:0<10^k:=Nat.pow_pos (by decide)
 have hM:∀ x:Nat,x≤10^k-1→FitL (x:Int):=fun x hx=>FitL.nat (Sm.mono (k:=k) (show x<10^k by omega) hk)
 have q1:a.num.natAbs≤10^k-1:=by have:=(show a.num.natAbs<10^k from sa.1);omega
 have q2:a.den≤10^k-1:=by have:=(show a.den<10^k from sa.2);omega
 have q3:b.num.natAbs≤10^k-1:=by have:=(show b.num.natAbs<10^k from sb.1);omega
 have q4:b.den≤10^k-1:=by have:=(show b.den<10^k from sb.2);omega
 obtain⟨M,hM0⟩:∃ M:Nat,M=10^k-1:=⟨_,rfl⟩
 rw[← hM0]at hM q1 q2 q3 q4
 clear hpow hM0
 have hI:=SimInv.start (M:=M) (show 0<a.num.natAbs by omega) p1 (show 0<b.num.natAbs by omega) p2 (lU ha hb hab) q1 q2 q3 q4
 have h:=pM M _ _ _ _ _ _ hI w hl (fun x y hy hx hy2 W hW=>?_) (fun x y u hu hx hy hu2 W hW=>?_) (fun x y u hu hx hy hu2 W hW=>?_)
 · unfold Fv
   rw[f1,f2]
   rw[show((a.num.natAbs:Nat):Int)=a.num by omega,show((b.num.natAbs:Nat):Int)=b.num by omega]at h
   exact h
 · exact oQ (x:Int) (y:Int) _ _ (by omega) (Int.natCast_ediv x y).symm (Int.natCast_emod x y).symm (hM x hx).z (hM y hy2).z (hM x hx).succ W hW
 · exact mJ (x:Int) (y:Int) (u:Int) (by rw[← hu,Int.natCast_mul]) (hM x hx) (hM y hy) (hM u hu2) W hW
 · exact z3B (x:Int) (y:Int) (u:Int) (by rw[← hu,Int.natCast_add]) (hM x hx) (hM y hy) (hM u hu2) W hW
theorem iY (a b:Rat)(ha:0<a.num)(hb:0<b.num)(hab:a≤b)(sa:FitQ a)(sb:FitQ b)(w:World)(hl:La w) :
 CR 72 #[Fv a,Fv b] w (Fv (bJ a b)):=pR 900 (by decide) a b ha hb hab sa sb w hl
end Go.Proofs.YtmigpoiajkihhaaGreatDoor
