/- Texts of this proof, one behind the other. -/
import Derived.Test.YthjmjlfnpnbonaaGreatDoorMz1q
import Derived.Test.YthjmjlfnpnbonaaGreatDoorMz9q
set_option maxRecDepth 100000
set_option maxHeartbeats 20000000
open Go.Lib (hid)
namespace Go.Proofs.YthjmjlfnpnbonaaGreatDoor
open Go.RowKit Go.Gb
theorem val_intT {k:IntKind}{a b:Int}(h:a=b):Value.int k a=.int k b:=by rw[h]
theorem dig_cell {d:Nat}(h:d<10):Value.int .u8 (48+(d:Int))=.int .u8 ((UInt8.ofNat (48+d)).toNat:Int):=by
 rw[dig_toNat h];exact val_intT (by omega)
theorem row_snoc {W:World}{B:Nat}{v:Value}{bs:List UInt8}{d:Nat}(hd:d<10)(h:W.ownsRow B 5 1 v (bs.length+1) (Lib.byteCells bs++[.int .u8 (48+(d:Int))])):W.ownsRow B 5 1 v (bs++[UInt8.ofNat (48+d)]).length (Lib.byteCells (bs++[UInt8.ofNat (48+d)])):=by
 rw[dig_cell hd]at h
 rw[List.length_append,Lib.byteCells_append]
 exact h
theorem RTo_some (b o c:Nat)(xs:List Nat)(hx:∀ x∈xs,x<BB)(hp:0<xs.length)(hlast:xs.getD (xs.length-1) 0≠0)(hl:xs.length≤10000)(w:World)(hb:b<w.heap.size)
 (hcx:∀ i,i<xs.length→w.cell? ⟨b,o+i,none⟩=some (.int .u32 ((xs.getD i 0:Nat):Int))) :
 CR 53 #[.slice (some ⟨b,o,none⟩) xs.length c] w (.string ⟨(Lib.decDigits (wval xs)).toArray⟩):=by
 obtain⟨i0,hi,hz0,hz1,hz2⟩:=info_parts Tryz.info5
 have HX:=hid hx
 have HCX:=hid hcx
 have HLA:=hid hlast
 have HO0:=hid (World.ownsRow_nil w w.heap.size 5 1)
 have d0:((xs.length:Int)==0)=false:=beq_eq_false_iff_ne.2 (by omega)
 have HP:=hid hp
 clear hx hcx hlast hp
 go_enter Tryz.func53,Tryz.ntmps53
 go_wp2
 go_loopw [3,4] (fun v ii wr=>∃ (i:Nat) (bs:List UInt8),i≤xs.length∧ii=.int .i64 i∧Hid (TOut xs bs i)∧Hid (wr.ownsRow w.heap.size 5 1 v bs.length (Lib.byteCells bs))∧Hid (Below w.heap.size w wr)) (fun _ ii _=>xs.length-(intOf ii).toNat)
 case atStart=>exact⟨0,[],Nat.zero_le _,rfl,TOut.zero HP.out,HO0,Below.refl _ _⟩
 case round =>
  obtain⟨i,bs,hi',rfl,hT,ho,hn⟩:=hrel
  by_cases hlt:i<xs.length
  · have hcell:=(hn.out.cell (p:=⟨b,o+i,none⟩) hb).trans (HCX.out i hlt)
    have HS:=hid (TIn.start hT.out hlt)
    have hq0:=(TIn.start hT.out hlt).lt hlt HX.out
    clear hT
    generalize xs.getD i 0=x at *
    go_wp2
    obtain⟨wo,rfl⟩:∃ wo:World,wo=wr:=⟨_,rfl⟩
    go_loopw [3,5,6] (fun v qq kk wr=>∃ (k q:Nat) (bs:List UInt8),k≤9∧q<1000000000∧kk=.int .i64 k∧qq=.int .u32 (q:Int)∧Hid (TIn xs bs i k q)∧Hid (wr.ownsRow w.heap.size 5 1 v bs.length (Lib.byteCells bs))∧Hid (Below w.heap.size w wr)) (fun _ _ kk _=>9-(intOf kk).toNat)
    case atStart=>exact⟨0,x,bs,by omega,hq0,rfl,rfl,HS,ho,hn⟩
    case round =>
        clear HS ho hn hcell hq0
        obtain⟨k,q,bs,hk9,hq9,rfl,rfl,hI,ho,hn⟩:=hrel
        have hbl:bs.length≤90009:=by have:=hI.out.len;omega
        have hq9':(q:Int)≤999999999:=by omega
        obtain⟨d,hd⟩:∃ d:Nat,d=q%10:=⟨_,rfl⟩
        have hd10:d<10:=by omega
        have hmod:(q:Int)%10=(d:Int):=by omega
        have hd9:(d:Int)≤9:=by omega
        have w1:IntKind.u8.wrap (48+(d:Int))=48+(d:Int):=by rw[IntKind.wrap_u8];omega
        by_cases hg:k<9∧(i+1<xs.length∨0<q)
        · obtain⟨hk,hg⟩:=hg
          have HST:=hid (show TIn xs (bs++[UInt8.ofNat (48+d)]) i (k+1) (q / 10) by rw[hd];exact hI.out.step hlt HX.out hk hg)
          have Hd:=hid hd
          have Hd10:=hid hd10
          have k1:(k:Int)<9:=by omega
          clear hd hd10 hI
          by_cases hl2:i+1<xs.length
          · have k2:(i:Int)+1<(xs.length:Int):=by omega
            clear hg
            go_wp2_with (at_builtin;refine wpList_append_own _ rfl _ _ 115 rfl w.heap.size 5 i0 (.int .u8 0) 1 1 Tryz.underlying115 hi hz0 hz1 hz2 rfl (by decide) _ _ _ rfl (ho.out.alloc _) ⟨wr.heap.size,0,none⟩ 1 1 [.int .u8 (48+(d:Int))] rfl rfl (cells_one _ _ _) (by intro u hu;simp at hu;subst hu;rfl) (by unfold maxLen;omega) (by omega) (by have:=hn.out.size;simp;omega) ?_)
            intro v' w1 hown' hgrow _
            have HO:=hid (row_snoc Hd10.out hown')
            have HN:=hid ((hn.out.alloc hn.out.size _).grown hgrow (by have:=hn.out.size;simp;omega) (fun k hk=>(ho.out.lt k hk).1))
            clear hown' hgrow
            go_wp2
            go_roundw
            case rel=>exact⟨k+1,q / 10,_,by omega,by omega,by go_num,val_intT (by omega),HST,HO,HN⟩
            case measure=>simp[intOf];omega
          · have k2:decide ((i:Int)+1<(xs.length:Int))=false:=decide_eq_false (by omega)
            have k3:0<(q:Int):=by omega
            clear hg
            go_wp2_with (at_builtin;refine wpList_append_own _ rfl _ _ 115 rfl w.heap.size 5 i0 (.int .u8 0) 1 1 Tryz.underlying115 hi hz0 hz1 hz2 rfl (by decide) _ _ _ rfl (ho.out.alloc _) ⟨wr.heap.size,0,none⟩ 1 1 [.int .u8 (48+(d:Int))] rfl rfl (cells_one _ _ _) (by intro u hu;simp at hu;subst hu;rfl) (by unfold maxLen;omega) (by omega) (by have:=hn.out.size;simp;omega) ?_)
            intro v' w1 hown' hgrow _
            have HO:=hid (row_snoc Hd10.out hown')
            have HN:=hid ((hn.out.alloc hn.out.size _).grown hgrow (by have:=hn.out.size;simp;omega) (fun k hk=>(ho.out.lt k hk).1))
            clear hown' hgrow
            go_wp2
            go_roundw
            case rel=>exact⟨k+1,q / 10,_,by omega,by omega,by go_num,val_intT (by omega),HST,HO,HN⟩
            case measure=>simp[intOf];omega
        · have HD:=hid (hI.out.done hlt HX.out HLA.out (by omega))
          clear hd hd10 hmod w1
          by_cases hk:k<9
          · have k1:(k:Int)<9:=by omega
            have k2:decide ((i:Int)+1<(xs.length:Int))=false:=decide_eq_false (by omega)
            have k3:decide (0<(q:Int))=false:=decide_eq_false (by omega)
            have k4:decide (0<q)=false:=decide_eq_false (by omega)
            have k5:¬ 0<q:=by omega
            clear hg hI
            go_wp2
            go_roundw
            case rel=>exact⟨i+1,bs,by omega,by go_num,HD,ho,hn⟩
            case measure=>simp[intOf];omega
          · have k1:decide ((k:Int)<9)=false:=decide_eq_false (by omega)
            have k2:¬ (k:Int)<9:=by omega
            clear hg hI
            go_wp2
            go_roundw
            case rel=>exact⟨i+1,bs,by omega,by go_num,HD,ho,hn⟩
            case measure=>simp[intOf];omega
  · have hi2:i=xs.length:=by omega
    have hT':=hT.out
    have hbl:=hT'.len HX.out
    rw[hi2]at hT'
    obtain⟨hrev,hbp⟩:=hT'.done
    obtain⟨g,cap,rfl,hg,hcm,hR⟩:=RowB.of_own ho.out hbp
    obtain⟨n,hn0⟩:∃ n,n=bs.length:=⟨_,rfl⟩
    have HR0:=hid (show RowB wr g cap (swp bs 0) by rw[swp_zero];exact hR)
    have Hg:=hid hg
    have HREV:=hid hrev
    rw[← hn0]at hbl hbp
    have Hn0:=hid hn0
    have k1:decide ((i:Int)<(xs.length:Int))=false:=decide_eq_false (by omega)
    rw[← hn0]
    clear hT hT' hrev ho hR hg hi2 hn0 hcm
    go_wp2
    obtain⟨wo,rfl⟩:∃ wo:World,wo=wr:=⟨_,rfl⟩
    go_loopw [7,8] (fun ii kk wr=>∃ (i k:Nat),i+k+1=n∧ii=.int .i64 i∧kk=.int .i64 k∧Hid (RowB wr g cap (swp bs i))∧Hid (Below w.heap.size w wr)) (fun ii _ _=>n-(intOf ii).toNat)
    case atStart=>exact⟨0,n-1,by omega,rfl,val_intT (by omega),HR0,hn⟩
    case round =>
        clear HR0 hn
        obtain⟨i,k,hik,rfl,rfl,hR,hn⟩:=hrel
        have hnl:=Hn0.out
        by_cases hlk:i<k
        · have hkk:bs.length-1-i=k:=by omega
          have hc1:=hR.out.cell (i:=i) (by rw[swp_length];omega)
          have hc2:=hR.out.cell (i:=k) (by rw[swp_length];omega)
          rw[swp_low bs i (by omega)]at hc1
          have hh:=swp_high bs i (by omega)
          rw[hkk]at hh
          rw[hh]at hc2
          have hs:=swp_succ bs i (by omega)
          rw[hkk]at hs
          have hf1:=hR.out.free i
          have hf2:=hR.out.free k
          obtain⟨x,hx⟩:∃ x,x=bs.getD i 0:=⟨_,rfl⟩
          obtain⟨y,hy⟩:∃ y,y=bs.getD k 0:=⟨_,rfl⟩
          rw[← hx]at hc1 hs
          rw[← hy]at hc2 hs
          have HSET:=hid (show RowB (((wr.setCell ⟨g,i,none⟩ (.int .u8 (y.toNat:Int))).setCell ⟨g,k,none⟩ (.int .u8 (x.toNat:Int))).drew) g cap (swp bs (i+1)) by
           have h1:=(hR.out.set i y).set k x
           rw[hs]at h1
           exact h1)
          have HB:=hid (((hn.out.setCell (p:=⟨g,i,none⟩) Hg.out (.int .u8 (y.toNat:Int))).setCell (p:=⟨g,k,none⟩) Hg.out (.int .u8 (x.toNat:Int))).drew)
          have hne:¬ i=k:=by omega
          have j1:(i:Int)<(k:Int):=by omega
          have j2:(k:Int)<(n:Int):=by omega
          have hc3:(wr.setCell ⟨g,i,none⟩ (.int .u8 (y.toNat:Int))).cell? ⟨g,k,none⟩=some (.int .u8 (y.toNat:Int)):=(World.cell?_setCell_other _ _ _ _ (by intro e;injection e with e1 e2;exact hne e2)).trans hc2
          clear hx hy hs hh hkk hR hn hnl
          generalize x.toNat=a at *
          generalize y.toNat=b2 at *
          go_wp2
          go_region
          go_wp2
          go_roundw
          case rel=>exact⟨i+1,k-1,by omega,by go_num,val_intT (by omega),HSET,HB⟩
          case measure=>simp[intOf];omega
        · have hsd:=swp_done bs i (by omega)
          have hR':=hR.out
          rw[hsd,HREV.out]at hR'
          have hdl:(Lib.decDigits (wval xs)).length=n:=by rw[← HREV.out,List.length_reverse];omega
          have hcv:(convert 115 9 (.slice (some ⟨g,0,none⟩) n cap)).run Tryz.prog wr=.ok (.string ⟨(Lib.decDigits (wval xs)).toArray⟩) wr:=by
           have h:=run_convert_bytes_back (P:=Tryz.prog) wr 115 9 5 ⟨g,0,none⟩ cap (Lib.decDigits (wval xs)) Tryz.underlying115 Tryz.underlying5 Tryz.underlying9 (fun j hj=>by
            have h1:=hR'.cell hj
            rw[Lib.add_plain,Nat.zero_add,h1]
            simp[List.getD,hj])
           rw[hdl]at h
           exact h
          have k2:decide ((i:Int)<(k:Int))=false:=decide_eq_false (by omega)
          clear hsd hR hR' hdl hnl
          go_wp2
          go_ret
          exact⟨rfl,hn.out⟩
end Go.Proofs.YthjmjlfnpnbonaaGreatDoor
set_option maxRecDepth 100000
set_option maxHeartbeats 20000000
open Go.Lib (hid)
namespace Go.Gb
def GOK (p2 p1 p0 v1 v0 g:Nat):Prop:=g<BB∧g*(v1*BB+v0)≤(p2*BB+p1)*BB+p0∧∀ q,q<BB→q*(v1*BB+v0)≤(p2*BB+p1)*BB+p0→q≤g
def GI (p2 p1 p0 v1 v0 g r:Nat):Prop:=g*v1+r=p2*BB+p1∧g≤BB+1∧r<BB∧∀ q,q<BB→q*(v1*BB+v0)≤(p2*BB+p1)*BB+p0→q≤g
theorem GI.start {p2 p1 p0 v1 v0:Nat}(hv1:500000000≤v1)(hv1':v1<BB)(hp1:p1<BB)(hp0:p0<BB)(hp2:p2≤v1):GI p2 p1 p0 v1 v0 ((p2*BB+p1) / v1) ((p2*BB+p1)%v1):=by
 have hv:0<v1:=by omega
 refine⟨by rw[Nat.mul_comm];exact Nat.div_add_mod _ _,?_,Nat.lt_trans (Nat.mod_lt _ hv) hv1',?_⟩
 · have h1:p2*BB≤v1*BB:=Nat.mul_le_mul_right _ hp2
   have h2:(p2*BB+p1) / v1<BB+2:=by
    rw[Nat.div_lt_iff_lt_mul hv,Nat.add_mul,Nat.mul_comm BB v1]
    have:=BB_eq
    omega
   omega
 · intro q _ hq
   rw[Nat.le_div_iff_mul_le hv]
   have h1:q*(v1*BB+v0)=q*v1*BB+q*v0:=by rw[Nat.mul_add,Nat.mul_assoc]
   have h2:q*v1*BB<(p2*BB+p1+1)*BB:=by rw[Nat.add_mul _ 1,Nat.one_mul];omega
   have:=Nat.lt_of_mul_lt_mul_right h2
   omega
theorem GI.less {p2 p1 p0 v1 v0 g r:Nat}(h:GI p2 p1 p0 v1 v0 g r)(hg:∀ q,q<BB→q*(v1*BB+v0)≤(p2*BB+p1)*BB+p0→q≠g)(hgp:0<g)(hr:r+v1<BB):GI p2 p1 p0 v1 v0 (g-1) (r+v1):=by
 obtain⟨h1,h2,h3,h4⟩:=h
 refine⟨?_,by omega,hr,fun q hq hq2=>?_⟩
 · have:g*v1=(g-1)*v1+v1:=by
    conv=>lhs;rw[show g=(g-1)+1 by omega,Nat.add_mul,Nat.one_mul]
   omega
 · have:=h4 q hq hq2
   have:=hg q hq hq2
   omega
theorem GI.last {p2 p1 p0 v1 v0 g r:Nat}(h:GI p2 p1 p0 v1 v0 g r)(hv0:v0<BB)(hp1:p1<BB)(hp2:p2≤v1)(hg:∀ q,q<BB→q*(v1*BB+v0)≤(p2*BB+p1)*BB+p0→q≠g)(hgp:0<g)(hr:BB≤r+v1):GOK p2 p1 p0 v1 v0 (g-1):=by
 obtain⟨h1,h2,h3,h4⟩:=h
 have e1:g*v1=(g-1)*v1+v1:=by
  conv=>lhs;rw[show g=(g-1)+1 by omega,Nat.add_mul,Nat.one_mul]
 have h5:p2*BB≤v1*BB:=Nat.mul_le_mul_right _ hp2
 have h6:(g-1)*v1<BB*v1:=by rw[Nat.mul_comm BB];omega
 have h7:g-1<BB:=Nat.lt_of_mul_lt_mul_right h6
 refine⟨h7,?_,fun q hq hq2=>?_⟩
 · have e2:(g-1)*(v1*BB+v0)=(g-1)*v1*BB+(g-1)*v0:=by rw[Nat.mul_add,Nat.mul_assoc]
   have e3:(p2*BB+p1)*BB=((g-1)*v1)*BB+(r+v1)*BB:=by rw[← Nat.add_mul];congr 1;omega
   have e4:(g-1)*v0≤BB*BB:=Nat.mul_le_mul (Nat.le_of_lt h7) (Nat.le_of_lt hv0)
   have e5:BB*BB≤(r+v1)*BB:=Nat.mul_le_mul_right _ hr
   omega
 · have:=h4 q hq hq2
   have:=hg q hq hq2
   omega
theorem GI.big {p2 p1 p0 v1 v0 g:Nat}(hg:BB≤g):∀ q,q<BB→q*(v1*BB+v0)≤(p2*BB+p1)*BB+p0→q≠g:=fun q hq _=>by omega
theorem GI.test {p2 p1 p0 v1 v0 g r:Nat}(h:GI p2 p1 p0 v1 v0 g r)(ht:r*BB+p0<g*v0):∀ q,q<BB→q*(v1*BB+v0)≤(p2*BB+p1)*BB+p0→q≠g:=by
 intro q hq h2 e
 subst e
 have e2:q*(v1*BB+v0)=q*v1*BB+q*v0:=by rw[Nat.mul_add,Nat.mul_assoc]
 have e3:(p2*BB+p1)*BB=(q*v1)*BB+r*BB:=by rw[← Nat.add_mul,h.1]
 omega
theorem GI.fin {p2 p1 p0 v1 v0 g r:Nat}(h:GI p2 p1 p0 v1 v0 g r)(hg:g<BB)(ht:g*v0≤r*BB+p0):GOK p2 p1 p0 v1 v0 g:=by
 refine⟨hg,?_,h.2.2.2⟩
 have e2:g*(v1*BB+v0)=g*v1*BB+g*v0:=by rw[Nat.mul_add,Nat.mul_assoc]
 have e3:(p2*BB+p1)*BB=(g*v1)*BB+r*BB:=by rw[← Nat.add_mul,h.1]
 omega
end Go.Gb
namespace Go.Proofs.YthjmjlfnpnbonaaGreatDoor
open Go.RowKit Go.Gb
def GC (b1 o1 b2 o2 n p2 p1 p0 v1 v0:Nat) (w:World):Prop :=
 w.cell? ⟨b1,o1+n,none⟩=some (.int .u64 (p2:Int))∧w.cell? ⟨b1,o1+(n-1),none⟩=some (.int .u64 (p1:Int))∧w.cell? ⟨b1,o1+(n-2),none⟩=some (.int .u64 (p0:Int)) ∧
 w.cell? ⟨b2,o2+(n-1),none⟩=some (.int .u64 (v1:Int))∧w.cell? ⟨b2,o2+(n-2),none⟩=some (.int .u64 (v0:Int))
theorem GC.on {b1 o1 b2 o2 n p2 p1 p0 v1 v0:Nat}{w w':World}(h:GC b1 o1 b2 o2 n p2 p1 p0 v1 v0 w)(hb:Below w.heap.size w w'):GC b1 o1 b2 o2 n p2 p1 p0 v1 v0 w':=by
 obtain⟨h1,h2,h3,h4,h5⟩:=h
 exact⟨(hb.cell (World.block_lt_of_cell? _ _ h1)).trans h1,(hb.cell (World.block_lt_of_cell? _ _ h2)).trans h2,(hb.cell (World.block_lt_of_cell? _ _ h3)).trans h3,(hb.cell (World.block_lt_of_cell? _ _ h4)).trans h4,(hb.cell (World.block_lt_of_cell? _ _ h5)).trans h5⟩
theorem ret_int1 {k:IntKind}{a b:Int}(h:a=b):Ending.returned (.int k a)=.returned (.int k b):=by rw[h]
theorem val_int1 {k:IntKind}{a b:Int}(h:a=b):Value.int k a=.int k b:=by rw[h]
theorem guess_any (b1 o1 c1 b2 o2 c2 n p2 p1 p0 v1 v0:Nat)(hn:2≤n)(hn2:n≤100000)(hv1:500000000≤v1)(hv1':v1<1000000000)(hv0:v0<1000000000)(hp1:p1<1000000000)(hp0:p0<1000000000)(hp2:p2≤v1)(w:World)
 (hc:GC b1 o1 b2 o2 n p2 p1 p0 v1 v0 w) :
 Calls Tryz.prog 244 #[.slice (some ⟨b1,o1,none⟩) (n+1) c1,.slice (some ⟨b2,o2,none⟩) n c2] w fun e w'=>∃ g:Nat,e=.returned (.int .u64 (g:Int))∧GOK p2 p1 p0 v1 v0 g∧Below w.heap.size w w':=by
 have hst:=GI.start (v0:=v0) hv1 (by rw[BB_eq];exact hv1') (by rw[BB_eq];exact hp1) (by rw[BB_eq];exact hp0) hp2
 have hvz:((v1:Int)==0)=false:=beq_eq_false_iff_ne.2 (by omega)
 have hq:((p2:Int)*1000000000+(p1:Int)) / (v1:Int)=(((p2*BB+p1) / v1:Nat):Int):=by rw[BB_eq];rfl
 have hm:((p2:Int)*1000000000+(p1:Int))%(v1:Int)=(((p2*BB+p1)%v1:Nat):Int):=by rw[BB_eq];rfl
 have HS:=hid hst
 have HQ:=hid hq
 have HM:=hid hm
 have HC:=hid hc
 have Hv0:=hid (show v0<BB by rw[BB_eq];exact hv0)
 have Hp1:=hid (show p1<BB by rw[BB_eq];exact hp1)
 have Hp2:=hid hp2
 have k0:(500000000:Int)≤(v1:Int):=by omega
 have k1:(v1:Int)≤999999999:=by omega
 have k2:(v0:Int)≤999999999:=by omega
 have k3:(p2:Int)≤999999999:=by omega
 have k4:(p1:Int)≤999999999:=by omega
 have k5:(p0:Int)≤999999999:=by omega
 have i1:(2:Int)≤(n:Int):=by omega
 have i2:(n:Int)≤100000:=by omega
 obtain⟨h2,h1,h0,g1,g0⟩:=hc
 clear hst hq hm hn hn2 hv1 hv1' hv0 hp1 hp0 hp2
 go_enter Tryz.func244,Tryz.ntmps244
 go_wp2
 go_quiet (fail)
 go_wp2
 have HN2:=hid (below_drewN' (Below.refl w.heap.size w) nq)
 clear h2 h1 h0 g1 g0
 obtain⟨h2,h1,h0,g1,g0⟩:=HC.out.on HN2.out
 generalize w.drewN nq=w2 at *
 go_quiet (fail)
 have HN3:=hid (below_drewN' HN2.out nq)
 clear h2 h1 h0 g1 g0 HN2
 generalize w2.drewN nq=w3 at *
 go_wp2
 go_loopw [7,8] (fun gg rr wr=>∃ (g r:Nat),gg=.int .u64 (g:Int)∧rr=.int .u64 (r:Int)∧Hid (GI p2 p1 p0 v1 v0 g r)∧Hid (Below w.heap.size w wr)) (fun gg _ _=>(intOf gg).toNat)
 case atStart=>exact⟨(p2*BB+p1) / v1,(p2*BB+p1)%v1,by rw[HQ.out],by rw[HM.out],HS,HN3⟩
 case round =>
  obtain⟨g,r,rfl,rfl,hI,hN⟩:=hrel
  obtain⟨h2,h1,h0,g1,g0⟩:=HC.out.on hN.out
  have hg:(g:Int)≤1000000001:=by have:=hI.out.2.1;have:=BB_eq;omega
  have hr:(r:Int)≤999999999:=by have:=hI.out.2.2.1;have:=BB_eq;omega
  by_cases hbig:(1000000000:Int)≤(g:Int)
  · have hne:=GI.big (p2:=p2) (p1:=p1) (p0:=p0) (v1:=v1) (v0:=v0) (g:=g) (by rw[BB_eq];omega)
    by_cases hrv:(1000000000:Int)≤(r:Int)+(v1:Int)
    · have HL:=hid (hI.out.last Hv0.out Hp1.out Hp2.out hne (by omega) (by rw[BB_eq];omega))
      clear hne
      go_wp2
      go_quiet (fail)
      have HN4:=hid (below_drewN' hN.out nq)
      have g1':(wr.drewN nq).cell? ⟨b2,o2+(n-1),none⟩=some (.int .u64 (v1:Int)):=g1
      clear h2 h1 h0 g1 g0
      generalize wr.drewN nq=w4 at *
      go_wp2
      go_ret
      exact⟨g-1,ret_int1 (by omega),HL.out,HN4.out⟩
    · have hrv3:decide ((1000000000:Int)≤(r:Int)+(v1:Int))=false:=decide_eq_false hrv
      have HL:=hid (hI.out.less hne (by omega) (by rw[BB_eq];omega))
      clear hne
      go_wp2
      go_quiet (fail)
      have HN4:=hid (below_drewN' hN.out nq)
      have g1':(wr.drewN nq).cell? ⟨b2,o2+(n-1),none⟩=some (.int .u64 (v1:Int)):=g1
      clear h2 h1 h0 g1 g0
      generalize wr.drewN nq=w4 at *
      go_wp2
      go_roundw
      case rel=>exact⟨g-1,r+v1,val_int1 (by omega),val_int1 (by omega),HL,HN4⟩
      case measure=>simp[intOf];omega
  · obtain⟨pr,hpr⟩:∃ p:Nat,p=g*v0:=⟨_,rfl⟩
    have e1:(g:Int)*(v0:Int)=(pr:Int):=by rw[hpr];exact(Int.natCast_mul _ _).symm
    have hle:pr≤1000000000*1000000000:=by rw[hpr];exact Nat.mul_le_mul (by omega) (by omega)
    have w1:IntKind.u64.wrap (pr:Int)=(pr:Int):=IntWalk.u64_in _ (by omega)
    have hbig':decide ((1000000000:Int)≤(g:Int))=false:=decide_eq_false hbig
    clear hle
    by_cases ht:(r:Int)*1000000000+(p0:Int)<(pr:Int)
    · have hne:=hI.out.test (by rw[BB_eq,← hpr];omega)
      have hgp:0<g:=by
       rcases Nat.eq_zero_or_pos g with h|h
       · rw[h,Nat.zero_mul]at hpr;omega
       · exact h
      have HPR:=hid hpr
      clear hpr
      by_cases hrv:(1000000000:Int)≤(r:Int)+(v1:Int)
      · have HL:=hid (hI.out.last Hv0.out Hp1.out Hp2.out hne (by omega) (by rw[BB_eq];omega))
        clear hne
        go_wp2
        go_quiet (fail)
        have HN4:=hid (below_drewN' hN.out nq)
        have g1':(wr.drewN nq).cell? ⟨b2,o2+(n-1),none⟩=some (.int .u64 (v1:Int)):=g1
        clear h2 h1 h0 g1 g0
        generalize wr.drewN nq=w4 at *
        go_wp2
        go_ret
        exact⟨g-1,ret_int1 (by omega),HL.out,HN4.out⟩
      · have hrv3:decide ((1000000000:Int)≤(r:Int)+(v1:Int))=false:=decide_eq_false hrv
        have HL:=hid (hI.out.less hne (by omega) (by rw[BB_eq];omega))
        clear hne
        go_wp2
        go_quiet (fail)
        have HN4:=hid (below_drewN' hN.out nq)
        have g1':(wr.drewN nq).cell? ⟨b2,o2+(n-1),none⟩=some (.int .u64 (v1:Int)):=g1
        clear h2 h1 h0 g1 g0
        generalize wr.drewN nq=w4 at *
        go_wp2
        go_roundw
        case rel=>exact⟨g-1,r+v1,val_int1 (by omega),val_int1 (by omega),HL,HN4⟩
        case measure=>simp[intOf];omega
    · have ht3:decide ((r:Int)*1000000000+(p0:Int)<(pr:Int))=false:=decide_eq_false ht
      have HL:=hid (hI.out.fin (by rw[BB_eq];omega) (by rw[BB_eq,← hpr];omega))
      have HPR:=hid hpr
      clear hpr
      go_wp2
      go_quiet (fail)
      have HN4:=hid (below_drewN' hN.out nq)
      go_wp2
      go_ret
      exact⟨g,rfl,HL.out,HN4.out⟩
end Go.Proofs.YthjmjlfnpnbonaaGreatDoor
