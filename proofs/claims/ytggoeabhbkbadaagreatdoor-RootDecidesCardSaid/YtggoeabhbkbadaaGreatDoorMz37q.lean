/- Texts of this proof, one behind the other. -/
import Derived.Shelf.Strings.SlTrimAscii
import Derived.Test.YtggoeabhbkbadaaGreatDoorMz36q
set_option maxRecDepth 100000
set_option maxHeartbeats 20000000
open Go.Lib (hid)
namespace Go.Proofs.YtggoeabhbkbadaaGreatDoor
open Go.RowKit Go.Gb
theorem make_raw (a b n d r:ByteArray)(hb0:(b.toList==[48])=false)(w:World)(hl:La w)
 (h1:CL 69 #[.string a] (.bool true))
 (h2:CL 69 #[.string b] (.bool true))
 (h3:CL 92 #[.string a,.string b] (.agg #[.string n,.string d]))
 (h4:CQ 60 #[.agg #[.string n,.string d]] (.string r)) :
 CR 67 #[.string a,.string b] w (.tuple #[.string r,.int .i64 0]):=by
 have C1:=hid h1
 have C2:=hid h2
 have C3:=hid h3
 have C4:=hid h4
 have HL:=hid hl
 have HB0:=hid (Below.refl w.heap.size w)
 clear h1 h2 h3 h4 hl
 go_enter Tryz.func67,Tryz.ntmps67
 go_wp2_with fail
 refine(C1.out _ (HL.out.on HB0.out)).mono ?_
 rintro e w1 ⟨rfl,hb⟩
 have HB1:=hbt HB0 hb
 clear hb
 go_wp2_with fail
 refine(C2.out _ (HL.out.on HB1.out)).mono ?_
 rintro e w2 ⟨rfl,hb⟩
 have HB2:=hbt HB1 hb
 clear hb
 go_wp2_with fail
 refine(C3.out _ (HL.out.on HB2.out)).mono ?_
 rintro e w3 ⟨rfl,hb⟩
 have HB3:=hbt HB2 hb
 clear hb
 go_wp2_with fail
 refine(C4.out _).mono ?_
 rintro e w4 ⟨rfl,hb⟩
 have HB4:=hbt HB3 hb
 clear hb
 go_wp2
 go_ret2
 exact⟨rfl,HB4.out⟩
theorem divInt_le (a b:Int)(hb:b≠0):(Rat.divInt a b).num.natAbs≤a.natAbs∧(Rat.divInt a b).den≤b.natAbs:=by
 rcases Int.lt_or_gt_of_ne hb with h|h
 · obtain⟨n,hn⟩:∃ n:Nat,b = -(n:Int):=⟨b.natAbs,by omega⟩
   subst hn
   have h2:=mk_le (-a) n (by omega)
   rw[Rat.divInt_neg',Rat.divInt_ofNat]
   rw[Int.natAbs_neg]at h2
   rw[Int.natAbs_neg,Int.natAbs_natCast]
   exact h2
 · obtain⟨n,hn⟩:∃ n:Nat,b=(n:Int):=⟨b.natAbs,by omega⟩
   subst hn
   rw[Rat.divInt_ofNat,Int.natAbs_natCast]
   exact mk_le a n (by omega)
theorem smq_divInt {k:Nat}{a b:Int}(hb:b≠0)(ha:Sm k a.natAbs)(h:Sm k b.natAbs):SmQ k (Rat.divInt a b):=by
 obtain⟨e1,e2⟩:=divInt_le a b hb
 exact⟨ha.le e1,h.le e2⟩
theorem qMake (a b:Int)(hb:b≠0)(ha:FitL a)(fb:FitL b)(w:World)(hl:La w) :
 CR 67 #[.string (Sz a),.string (Sz b)] w (.tuple #[.string (Sq (Rat.divInt a b)),.int .i64 0]):=by
 have hs:SmQ 1900 (Rat.divInt a b):=smq_divInt hb ha fb
 have h3:=fun W hW=>freduce a b hb ha fb W hW
 unfold Fv at h3
 exact make_raw _ _ _ _ _ (sz_neq0 hb) w hl (fun W hW=>zValid_yes a ha.z W hW.zz) (fun W hW=>zValid_yes b fb.z W hW.zz) h3 (fun W=>fwrite _ hs.1 (FitL.nat hs.2) W)
open Go.RowKit Go.Gb
theorem q_same {w:World}{v u:Value}{b i:Nat}(h:w.cell? ⟨b,i,none⟩=some u):(w.setCell ⟨b,i,none⟩ v).cell? ⟨b,i,none⟩=some v:=World.cell?_setCell_same _ _ _ h
theorem q_off {w:World}{v:Value}{b i k:Nat}(h:i≠k):(w.setCell ⟨b,i,none⟩ v).cell? ⟨b,k,none⟩=w.cell? ⟨b,k,none⟩:=World.cell?_setCell_other _ _ _ _ (by intro e;injection e with e1 e2;exact h e2)
theorem fq_set {w:World}{v:Value}{p q:Addr}:(w.setCell p v).frozen? q=w.frozen? q:=by simp
open Go.RowKit Go.Gb
theorem fitq_small {q:Rat}(h1:q.num.natAbs<1000)(h2:q.den<1000):FitQ q:=⟨(show Sm 3 _ by unfold Sm;omega).mono (by decide),(show Sm 3 _ by unfold Sm;omega).mono (by decide)⟩
theorem qnd (q:Rat)(n:Int)(d:Nat)(a x y:ByteArray)(h:q.num=n∧q.den=d∧Sq q=a∧Sz n=x∧Sz (d:Int)=y):Sq q=a∧Fv q=.agg #[.string x,.string y]:=by
 obtain⟨h1,h2,h3,h4,h5⟩:=h
 refine⟨h3,?_⟩
 unfold Fv
 rw[h1,h2,h4,h5]
theorem q5:Sq 5=⟨#[53]⟩∧Fv 5=.agg #[.string ⟨#[53]⟩,.string ⟨#[49]⟩]:=qnd _ 5 1 _ _ _ (by decide +kernel)
open Go.RowKit Go.Gb
theorem q_0:Sq (0:Rat)=⟨#[48]⟩:=by decide +kernel
end Go.Proofs.YtggoeabhbkbadaaGreatDoor
set_option maxRecDepth 100000
set_option maxHeartbeats 20000000
open Go.Lib (hid)
namespace Go.Proofs.YtggoeabhbkbadaaGreatDoor
open Go.RowKit Go.Gb
def exStep (p:Rat × Rat) (x:Rat):Rat × Rat:=if x<p.1 then (x,p.2) else if p.2<x then (p.1,x) else p
def exOf (q:Nat→Rat):Nat→Rat × Rat
 | 0=>(q 0,q 0)
 | i+1=>exStep (exOf q i) (q (i+1))
theorem exOf_fit (q:Nat→Rat):∀ i:Nat,(∀ j,j≤i→FitQ (q j))→FitQ (exOf q i).1∧FitQ (exOf q i).2
 | 0,h=>⟨h 0 (Nat.le_refl _),h 0 (Nat.le_refl _)⟩
 | i+1,h=>by
   have h1:=exOf_fit q i (fun j hj=>h j (by omega))
   have h2:=h (i+1) (Nat.le_refl _)
   show FitQ (exStep (exOf q i) (q (i+1))).1∧FitQ (exStep (exOf q i) (q (i+1))).2
   unfold exStep
   split
   · exact⟨h2,h1.2⟩
   · split
     · exact⟨h1.1,h2⟩
     · exact h1
theorem iOrder (x y:Rat)(c:Int)(hc:cmpQ x y=c)(hx:FitQ x)(hy:FitQ y)(w:World)(hl:La w) :
 CR 42 #[.string (Sq x),.string (Sq y)] w (.int .i64 c):=iorder_raw _ _ _ _ w (qCompare x y c hc hx hy w hl)
def Ex (w wr:World) (lo hi:Rat):Prop:=Below w.heap.size w wr∧w.heap.size+2≤wr.heap.size∧(wr.cell? ⟨w.heap.size,0,none⟩=some (.string ⟨#[]⟩)∧wr.cell? ⟨w.heap.size,1,none⟩=some (.string ⟨#[]⟩)∧wr.frozen? ⟨w.heap.size,0,none⟩=false∧wr.frozen? ⟨w.heap.size,1,none⟩=false) ∧
 (wr.cell? ⟨w.heap.size+1,0,none⟩=some (.string (Sq lo))∧wr.cell? ⟨w.heap.size+1,1,none⟩=some (.string (Sq hi))∧wr.frozen? ⟨w.heap.size+1,0,none⟩=false∧wr.frozen? ⟨w.heap.size+1,1,none⟩=false)
theorem Ex.call {w a b:World}{lo hi:Rat}(h:Ex w a lo hi)(hb:Below a.heap.size a b):Ex w b lo hi:=by
 obtain⟨h1,h2,⟨a0,a1,a2,a3⟩,⟨b0,b1,b2,b3⟩⟩:=h
 refine⟨h1.trans (hb.mono h1.size),Nat.le_trans h2 hb.size,⟨?_,?_,?_,?_⟩,⟨?_,?_,?_,?_⟩⟩
 · exact(hb.cell (p:=⟨w.heap.size,0,none⟩) (by show w.heap.size<_;omega)).trans a0
 · exact(hb.cell (p:=⟨w.heap.size,1,none⟩) (by show w.heap.size<_;omega)).trans a1
 · exact(hb.frozen (p:=⟨w.heap.size,0,none⟩) (by show w.heap.size<_;omega)).trans a2
 · exact(hb.frozen (p:=⟨w.heap.size,1,none⟩) (by show w.heap.size<_;omega)).trans a3
 · exact(hb.cell (p:=⟨w.heap.size+1,0,none⟩) (by show w.heap.size+1<_;omega)).trans b0
 · exact(hb.cell (p:=⟨w.heap.size+1,1,none⟩) (by show w.heap.size+1<_;omega)).trans b1
 · exact(hb.frozen (p:=⟨w.heap.size+1,0,none⟩) (by show w.heap.size+1<_;omega)).trans b2
 · exact(hb.frozen (p:=⟨w.heap.size+1,1,none⟩) (by show w.heap.size+1<_;omega)).trans b3
theorem Ex.drew {w a:World}{lo hi:Rat}(h:Ex w a lo hi):Ex w a.drew lo hi:=⟨h.1.drew,h.2.1,h.2.2⟩
theorem Ex.setLo {w a:World}{lo hi:Rat}(h:Ex w a lo hi)(x:Rat):Ex w (a.setCell ⟨w.heap.size+1,0,none⟩ (.string (Sq x))) x hi:=by
 obtain⟨h1,h2,⟨a0,a1,a2,a3⟩,⟨b0,b1,b2,b3⟩⟩:=h
 refine⟨h1.setCell (p:=⟨w.heap.size+1,0,none⟩) (by show w.heap.size≤w.heap.size+1;omega) _,by simpa using h2,⟨(q_set (by omega)).trans a0,(q_set (by omega)).trans a1,?_,?_⟩,⟨World.cell?_setCell_same _ _ _ b0,(World.cell?_setCell_other _ _ _ _ (by intro e;injection e with e1 e2;exact absurd e2 (by decide))).trans b1,?_,?_⟩⟩<;>rw[fq_set]<;>assumption
theorem Ex.setHi {w a:World}{lo hi:Rat}(h:Ex w a lo hi)(x:Rat):Ex w (a.setCell ⟨w.heap.size+1,1,none⟩ (.string (Sq x))) lo x:=by
 obtain⟨h1,h2,⟨a0,a1,a2,a3⟩,⟨b0,b1,b2,b3⟩⟩:=h
 refine⟨h1.setCell (p:=⟨w.heap.size+1,1,none⟩) (by show w.heap.size≤w.heap.size+1;omega) _,by simpa using h2,⟨(q_set (by omega)).trans a0,(q_set (by omega)).trans a1,?_,?_⟩,⟨(World.cell?_setCell_other _ _ _ _ (by intro e;injection e with e1 e2;exact absurd e2 (by decide))).trans b0,World.cell?_setCell_same _ _ _ b1,?_,?_⟩⟩<;>rw[fq_set]<;>assumption
theorem Ex.start (w:World)(x:Rat):Ex w ((w.alloc (.cells #[.string ⟨#[]⟩,.string ⟨#[]⟩] 27)).alloc (.cells #[.string (Sq x),.string (Sq x)] 27)) x x:=by
 refine⟨((Below.refl w.heap.size w).alloc (Nat.le_refl _) _).alloc (by simp) _,by simp,⟨(q_lt (by simp)).trans ((q_new rfl).trans rfl),(q_lt (by simp)).trans ((q_new rfl).trans rfl),(fq_lt (by simp)).trans (fq_new rfl),(fq_lt (by simp)).trans (fq_new rfl)⟩,⟨(q_new (by simp)).trans rfl,(q_new (by simp)).trans rfl,fq_new (by simp),fq_new (by simp)⟩⟩
theorem extremes_any (g n c:Nat)(q:Nat→Rat)(hn1:2≤n)(hn2:n≤5000)(hnc:n≤c)(w:World)(hl:La w)(hg:g<w.heap.size)
 (hq:∀ i,i<n→FitQ (q i)) (hcell:∀ i,i<n→w.cell? ⟨g,i,none⟩=some (.string (Sq (q i)))) :
 CR 41 #[.slice (some ⟨g,0,none⟩) n c] w (.agg #[.string (Sq (exOf q (n-1)).1),.string (Sq (exOf q (n-1)).2)]):=by
 have HQ:=hid hq
 have HC:=hid hcell
 have HL:=hid hl
 have hn3:(0:Int)<(n:Int):=by omega
 have hn4:(1:Int)≤(n:Int):=by omega
 have hn6:0<n:=by omega
 have hn7:¬ (n:Int)≤0:=by omega
 have hn8:¬ n=0:=by omega
 have hn5:(n:Int)≤(c:Int):=by omega
 have k0:(w.alloc (.cells #[.string ⟨#[]⟩,.string ⟨#[]⟩] 27)).cell? ⟨g,0,none⟩=some (.string (Sq (q 0))):=(q_lt hg).trans (hcell 0 (by omega))
 clear hcell hq hl
 go_enter Tryz.func41,Tryz.ntmps41
 have KC:=hid (show ∀ W:World,Below w.heap.size w W→W.cell? ⟨g,0,none⟩=some (.string (Sq (q 0))) from fun W hB=>(hB.cell (p:=⟨g,0,none⟩) hg).trans (HC.out 0 (by omega)))
 have F0:=hid ((Below.refl w.heap.size w).alloc (Nat.le_refl _) (.cells #[.string ⟨#[]⟩,.string ⟨#[]⟩] 27))
 have F1:=hid (fun o=>F0.out.alloc (o:=o) (by simp))
 have F2:=hid (fun o=>F0.out.drew.alloc (o:=o) (by simp))
 go_wp2_with fail
 go_region_held3 (fun w'=>w'.cell? ⟨g,0,none⟩=some (.string (Sq (q 0)))) (first|(with_reducible exact KC.out _ F0.out)|(with_reducible exact KC.out _ F0.out.drew)|(with_reducible exact KC.out _ (F1.out _))|(with_reducible exact KC.out _ (F2.out _))|(with_reducible exact KC.out _ (F1.out _).drew))
  (fail)
 have E0:=hid (Ex.start w (q 0)).drew
 clear k0 F0 F1 F2
 generalize ((w.alloc (.cells #[.string ⟨#[]⟩,.string ⟨#[]⟩] 27)).alloc (.cells #[.string (Sq (q 0)),.string (Sq (q 0))] 27)).drew=w0 at *
 go_wp2_with fail
 go_loopw [5,16] (fun _ ii wr=>∃ (i:Nat),i+1≤n∧ii=.int .i64 (i:Int)∧Hid (Ex w wr (exOf q i).1 (exOf q i).2)) (fun _ ii _=>n-(intOf ii).toNat)
 case atStart=>exact⟨0,by omega,rfl,E0⟩
 case round =>
  obtain⟨i,hi,rfl,hE⟩:=hrel
  have hi2:(i:Int)≤5000:=by omega
  have hi3:(0:Int)≤(i:Int):=by omega
  have wi:IntKind.i64.wrap ((i:Int)+1)=(i:Int)+1:=IntWalk.i64_in _ (by omega)
  obtain⟨⟨r0,r1,r2,r3⟩,⟨f0,f1,f2,f3⟩⟩:=hE.out.2.2
  by_cases hlt:i+1<n
  · have hcx:=(hE.out.1.cell (p:=⟨g,i+1,none⟩) hg).trans (HC.out (i+1) hlt)
    have hcx2:=hcx
    rw[Nat.add_comm i 1]at hcx2
    have hlt2:(i:Int)<((n-1:Nat):Int):=by omega
    have hlt3:i<n-1:=by omega
    have hfit:=exOf_fit q i (fun j hj=>HQ.out j (by omega))
    have FX:=HQ.out (i+1) hlt
    have hnext:exOf q (i+1)=exStep (exOf q i) (q (i+1)):=rfl
    generalize hp:exOf q i=p at *
    obtain⟨lo,up⟩:=p
    rw[show q (1+i)=q (i+1) by rw[Nat.add_comm]]at hcx2
    generalize q (i+1)=x at *
    clear hp
    by_cases h1:x<lo
    · have HO:=hid (fun W hW=>iOrder x lo (-1) (cmpQ_lt h1) FX hfit.1 W hW)
      have HNX:=hid (show exOf q (i+1)=(x,up) by rw[hnext];unfold exStep;rw[if_pos h1])
      clear hnext h1 FX hfit
      go_wp2_with fail
      refine(HO.out _ (HL.out.on hE.out.1)).mono ?_
      rintro e w1 ⟨rfl,hb⟩
      have hE1:=hid (hE.out.call hb)
      clear hb r0 r1 r2 r3 f0 f1 f2 f3 hcx hcx2
      obtain⟨⟨r0,r1,r2,r3⟩,⟨f0,f1,f2,f3⟩⟩:=hE1.out.2.2
      go_wp2
      go_roundw
      case rel=>exact⟨i+1,by omega,by go_num,hid (by rw[HNX.out];exact hE1.out.setLo x)⟩
      case measure=>simp[intOf];omega
    · obtain⟨c1,hc1,hc2'⟩:∃ c1,cmpQ x lo=c1∧decide (c1<0)=false:=by
       rcases cmpQ_cases x lo with⟨h,e⟩|⟨h,e⟩|⟨h,e⟩
       · exact absurd h h1
       · exact⟨0,e,by decide⟩
       · exact⟨1,e,by decide⟩
      have HO:=hid (fun W hW=>iOrder x lo c1 hc1 FX hfit.1 W hW)
      by_cases h2:up<x
      · have HO2:=hid (fun W hW=>iOrder x up 1 (cmpQ_gt h2) FX hfit.2 W hW)
        have HNX:=hid (show exOf q (i+1)=(lo,x) by rw[hnext];unfold exStep;rw[if_neg h1,if_pos h2])
        clear hnext h1 h2 FX hfit hc1
        go_wp2_with fail
        refine(HO.out _ (HL.out.on hE.out.1)).mono ?_
        rintro e w1 ⟨rfl,hb⟩
        have hE1:=hid (hE.out.call hb)
        clear hb r0 r1 r2 r3 f0 f1 f2 f3 hcx hcx2
        obtain⟨⟨r0,r1,r2,r3⟩,⟨f0,f1,f2,f3⟩⟩:=hE1.out.2.2
        go_wp2_with fail
        refine(HO2.out _ (HL.out.on hE1.out.1)).mono ?_
        rintro e w2 ⟨rfl,hb⟩
        have hE2:=hid (hE1.out.call hb)
        clear hb r0 r1 r2 r3 f0 f1 f2 f3
        obtain⟨⟨r0,r1,r2,r3⟩,⟨f0,f1,f2,f3⟩⟩:=hE2.out.2.2
        go_wp2
        go_roundw
        case rel=>exact⟨i+1,by omega,by go_num,hid (by rw[HNX.out];exact hE2.out.setHi x)⟩
        case measure=>simp[intOf];omega
      · obtain⟨c3,hc3,hc4⟩:∃ c3,cmpQ x up=c3∧decide (0<c3)=false:=by
         rcases cmpQ_cases x up with⟨h,e⟩|⟨h,e⟩|⟨h,e⟩
         · exact⟨-1,e,by decide⟩
         · exact⟨0,e,by decide⟩
         · exact absurd h h2
        have HO2:=hid (fun W hW=>iOrder x up c3 hc3 FX hfit.2 W hW)
        have HNX:=hid (show exOf q (i+1)=(lo,up) by rw[hnext];unfold exStep;rw[if_neg h1,if_neg h2])
        clear hnext h1 h2 FX hfit hc1 hc3
        go_wp2_with fail
        refine(HO.out _ (HL.out.on hE.out.1)).mono ?_
        rintro e w1 ⟨rfl,hb⟩
        have hE1:=hid (hE.out.call hb)
        clear hb r0 r1 r2 r3 f0 f1 f2 f3 hcx hcx2
        obtain⟨⟨r0,r1,r2,r3⟩,⟨f0,f1,f2,f3⟩⟩:=hE1.out.2.2
        go_wp2_with fail
        refine(HO2.out _ (HL.out.on hE1.out.1)).mono ?_
        rintro e w2 ⟨rfl,hb⟩
        have hE2:=hid (hE1.out.call hb)
        clear hb r0 r1 r2 r3 f0 f1 f2 f3
        obtain⟨⟨r0,r1,r2,r3⟩,⟨f0,f1,f2,f3⟩⟩:=hE2.out.2.2
        go_wp2
        go_roundw
        case rel=>exact⟨i+1,by omega,by go_num,hid (by rw[HNX.out];exact hE2.out)⟩
        case measure=>simp[intOf];omega
  · have hge:decide ((i:Int)<((n-1:Nat):Int))=false:=by rw[decide_eq_false_iff_not];omega
    have hin:n-1=i:=by omega
    go_wp2
    refine bodyPost_ret (v:=.agg #[.string (Sq (exOf q i).1),.string (Sq (exOf q i).2)]) (by simp[results,Tryz.results41,go_sem,r0,r1]) rfl ⟨by rw[hin],?_⟩
    exact(hE.out.1.setCell (p:=⟨w.heap.size,0,none⟩) (Nat.le_refl _) _).setCell (p:=⟨w.heap.size,1,none⟩) (Nat.le_refl _) _
end Go.Proofs.YtggoeabhbkbadaaGreatDoor
