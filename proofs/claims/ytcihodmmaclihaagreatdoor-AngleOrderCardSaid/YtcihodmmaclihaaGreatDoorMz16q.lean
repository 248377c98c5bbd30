/- Texts of this proof, one behind the other. -/
import Derived.Test.YtcihodmmaclihaaGreatDoorMz14q
set_option maxRecDepth 100000
set_option maxHeartbeats 20000000
open Go.Lib (hid)
namespace Go.Gb
def GOK (p2 p1 p0 v1 v0 g:Nat):Prop:=g<BB∧g*(v1*BB+v0)≤(p2*BB+p1)*BB+p0∧∀ q,q<BB→q*(v1*BB+v0)≤(p2*BB+p1)*BB+p0→q≤g
def GI (p2 p1 p0 v1 v0 g r:Nat):Prop:=g*v1+r=p2*BB+p1∧g≤BB+1∧r<BB∧∀ q,q<BB→q*(v1*BB+v0)≤(p2*BB+p1)*BB+p0→q≤g
theorem GI.start {p2 p1 p0 v1 v0:Nat}(hv1:500000000≤v1)(hv1':v1<BB)(hp1:p1<BB)(hp0:p0<BB)(hp2:p2≤v1):GI p2 p1 p0 v1 v0 ((p2*BB+p1) / v1) ((p2*BB+p1)%v1):=by
 have hv:0<v1:=by omega
 refine⟨by rw[Nat.mul_comm];exact Nat.div_add_mod _ _,?_,Nat.lt_trans (Nat.mod_lt _ hv) hv1',?_⟩
 · have h1:p2*BB≤v1*BB:=Nat.mul_le_mul_right _ hp2
   have h2:(p2*BB+p1) / v1<BB+2:=by
    rw[Nat.div_lt_iff_lt_mul hv,Nat.add_mul,Nat.mul_comm BB v1]
    have:=BB_eq
    omega
   omega
 · intro q _ hq
   rw[Nat.le_div_iff_mul_le hv]
   have h1:q*(v1*BB+v0)=q*v1*BB+q*v0:=by rw[Nat.mul_add,Nat.mul_assoc]
   have h2:q*v1*BB<(p2*BB+p1+1)*BB:=by rw[Nat.add_mul _ 1,Nat.one_mul];omega
   have:=Nat.lt_of_mul_lt_mul_right h2
   omega
theorem GI.less {p2 p1 p0 v1 v0 g r:Nat}(h:GI p2 p1 p0 v1 v0 g r)(hg:∀ q,q<BB→q*(v1*BB+v0)≤(p2*BB+p1)*BB+p0→q≠g)(hgp:0<g)(hr:r+v1<BB):GI p2 p1 p0 v1 v0 (g-1) (r+v1):=by
 obtain⟨h1,h2,h3,h4⟩:=h
 refine⟨?_,by omega,hr,fun q hq hq2=>?_⟩
 · have:g*v1=(g-1)*v1+v1:=by
    conv=>lhs;rw[show g=(g-1)+1 by omega,Nat.add_mul,Nat.one_mul]
   omega
 · have:=h4 q hq hq2
   have:=hg q hq hq2
   omega
theorem GI.last {p2 p1 p0 v1 v0 g r:Nat}(h:GI p2 p1 p0 v1 v0 g r)(hv0:v0<BB)(hp1:p1<BB)(hp2:p2≤v1)(hg:∀ q,q<BB→q*(v1*BB+v0)≤(p2*BB+p1)*BB+p0→q≠g)(hgp:0<g)(hr:BB≤r+v1):GOK p2 p1 p0 v1 v0 (g-1):=by
 obtain⟨h1,h2,h3,h4⟩:=h
 have e1:g*v1=(g-1)*v1+v1:=by
  conv=>lhs;rw[show g=(g-1)+1 by omega,Nat.add_mul,Nat.one_mul]
 have h5:p2*BB≤v1*BB:=Nat.mul_le_mul_right _ hp2
 have h6:(g-1)*v1<BB*v1:=by rw[Nat.mul_comm BB];omega
 have h7:g-1<BB:=Nat.lt_of_mul_lt_mul_right h6
 refine⟨h7,?_,fun q hq hq2=>?_⟩
 · have e2:(g-1)*(v1*BB+v0)=(g-1)*v1*BB+(g-1)*v0:=by rw[Nat.mul_add,Nat.mul_assoc]
   have e3:(p2*BB+p1)*BB=((g-1)*v1)*BB+(r+v1)*BB:=by rw[← Nat.add_mul];congr 1;omega
   have e4:(g-1)*v0≤BB*BB:=Nat.mul_le_mul (Nat.le_of_lt h7) (Nat.le_of_lt hv0)
   have e5:BB*BB≤(r+v1)*BB:=Nat.mul_le_mul_right _ hr
   omega
 · have:=h4 q hq hq2
   have:=hg q hq hq2
   omega
theorem GI.big {p2 p1 p0 v1 v0 g:Nat}(hg:BB≤g):∀ q,q<BB→q*(v1*BB+v0)≤(p2*BB+p1)*BB+p0→q≠g:=fun q hq _=>by omega
theorem GI.test {p2 p1 p0 v1 v0 g r:Nat}(h:GI p2 p1 p0 v1 v0 g r)(ht:r*BB+p0<g*v0):∀ q,q<BB→q*(v1*BB+v0)≤(p2*BB+p1)*BB+p0→q≠g:=by
 intro q hq h2 e
 subst e
 have e2:q*(v1*BB+v0)=q*v1*BB+q*v0:=by rw[Nat.mul_add,Nat.mul_assoc]
 have e3:(p2*BB+p1)*BB=(q*v1)*BB+r*BB:=by rw[← Nat.add_mul,h.1]
 omega
theorem GI.fin {p2 p1 p0 v1 v0 g r:Nat}(h:GI p2 p1 p0 v1 v0 g r)(hg:g<BB)(ht:g*v0≤r*BB+p0):GOK p2 p1 p0 v1 v0 g:=by
 refine⟨hg,?_,h.2.2.2⟩
 have e2:g*(v1*BB+v0)=g*v1*BB+g*v0:=by rw[Nat.mul_add,Nat.mul_assoc]
 have e3:(p2*BB+p1)*BB=(g*v1)*BB+r*BB:=by rw[← Nat.add_mul,h.1]
 omega
end Go.Gb
namespace Go.Proofs.YtcihodmmaclihaaGreatDoor
open Go.RowKit Go.Gb
def GC (b1 o1 b2 o2 n p2 p1 p0 v1 v0:Nat) (w:World):Prop :=
 w.cell? ⟨b1,o1+n,none⟩=some (.int .u64 (p2:Int))∧w.cell? ⟨b1,o1+(n-1),none⟩=some (.int .u64 (p1:Int))∧w.cell? ⟨b1,o1+(n-2),none⟩=some (.int .u64 (p0:Int)) ∧
 w.cell? ⟨b2,o2+(n-1),none⟩=some (.int .u64 (v1:Int))∧w.cell? ⟨b2,o2+(n-2),none⟩=some (.int .u64 (v0:Int))
theorem GC.on {b1 o1 b2 o2 n p2 p1 p0 v1 v0:Nat}{w w':World}(h:GC b1 o1 b2 o2 n p2 p1 p0 v1 v0 w)(hb:Below w.heap.size w w'):GC b1 o1 b2 o2 n p2 p1 p0 v1 v0 w':=by
 obtain⟨h1,h2,h3,h4,h5⟩:=h
 exact⟨(hb.cell (World.block_lt_of_cell? _ _ h1)).trans h1,(hb.cell (World.block_lt_of_cell? _ _ h2)).trans h2,(hb.cell (World.block_lt_of_cell? _ _ h3)).trans h3,(hb.cell (World.block_lt_of_cell? _ _ h4)).trans h4,(hb.cell (World.block_lt_of_cell? _ _ h5)).trans h5⟩
theorem ret_int1 {k:IntKind}{a b:Int}(h:a=b):Ending.returned (.int k a)=.returned (.int k b):=by rw[h]
theorem val_int1 {k:IntKind}{a b:Int}(h:a=b):Value.int k a=.int k b:=by rw[h]
theorem guess_any (b1 o1 c1 b2 o2 c2 n p2 p1 p0 v1 v0:Nat)(hn:2≤n)(hn2:n≤100000)(hv1:500000000≤v1)(hv1':v1<1000000000)(hv0:v0<1000000000)(hp1:p1<1000000000)(hp0:p0<1000000000)(hp2:p2≤v1)(w:World)
 (hc:GC b1 o1 b2 o2 n p2 p1 p0 v1 v0 w) :
 Calls Tryz.prog 201 #[.slice (some ⟨b1,o1,none⟩) (n+1) c1,.slice (some ⟨b2,o2,none⟩) n c2] w fun e w'=>∃ g:Nat,e=.returned (.int .u64 (g:Int))∧GOK p2 p1 p0 v1 v0 g∧Below w.heap.size w w':=by
 have hst:=GI.start (v0:=v0) hv1 (by rw[BB_eq];exact hv1') (by rw[BB_eq];exact hp1) (by rw[BB_eq];exact hp0) hp2
 have hvz:((v1:Int)==0)=false:=beq_eq_false_iff_ne.2 (by omega)
 have hq:((p2:Int)*1000000000+(p1:Int)) / (v1:Int)=(((p2*BB+p1) / v1:Nat):Int):=by rw[BB_eq];rfl
 have hm:((p2:Int)*1000000000+(p1:Int))%(v1:Int)=(((p2*BB+p1)%v1:Nat):Int):=by rw[BB_eq];rfl
 have HS:=hid hst
 have HQ:=hid hq
 have HM:=hid hm
 have HC:=hid hc
 have Hv0:=hid (show v0<BB by rw[BB_eq];exact hv0)
 have Hp1:=hid (show p1<BB by rw[BB_eq];exact hp1)
 have Hp2:=hid hp2
 have k0:(500000000:Int)≤(v1:Int):=by omega
 have k1:(v1:Int)≤999999999:=by omega
 have k2:(v0:Int)≤999999999:=by omega
 have k3:(p2:Int)≤999999999:=by omega
 have k4:(p1:Int)≤999999999:=by omega
 have k5:(p0:Int)≤999999999:=by omega
 have i1:(2:Int)≤(n:Int):=by omega
 have i2:(n:Int)≤100000:=by omega
 obtain⟨h2,h1,h0,g1,g0⟩:=hc
 clear hst hq hm hn hn2 hv1 hv1' hv0 hp1 hp0 hp2
 go_enter Tryz.func201,Tryz.ntmps201
 go_wp2
 go_quiet (fail)
 go_wp2
 have HN2:=hid (below_drewN' (Below.refl w.heap.size w) nq)
 clear h2 h1 h0 g1 g0
 obtain⟨h2,h1,h0,g1,g0⟩:=HC.out.on HN2.out
 generalize w.drewN nq=w2 at *
 go_quiet (fail)
 have HN3:=hid (below_drewN' HN2.out nq)
 clear h2 h1 h0 g1 g0 HN2
 generalize w2.drewN nq=w3 at *
 go_wp2
 go_loopw [7,8] (fun gg rr wr=>∃ (g r:Nat),gg=.int .u64 (g:Int)∧rr=.int .u64 (r:Int)∧Hid (GI p2 p1 p0 v1 v0 g r)∧Hid (Below w.heap.size w wr)) (fun gg _ _=>(intOf gg).toNat)
 case atStart=>exact⟨(p2*BB+p1) / v1,(p2*BB+p1)%v1,by rw[HQ.out],by rw[HM.out],HS,HN3⟩
 case round =>
  obtain⟨g,r,rfl,rfl,hI,hN⟩:=hrel
  obtain⟨h2,h1,h0,g1,g0⟩:=HC.out.on hN.out
  have hg:(g:Int)≤1000000001:=by have:=hI.out.2.1;have:=BB_eq;omega
  have hr:(r:Int)≤999999999:=by have:=hI.out.2.2.1;have:=BB_eq;omega
  by_cases hbig:(1000000000:Int)≤(g:Int)
  · have hne:=GI.big (p2:=p2) (p1:=p1) (p0:=p0) (v1:=v1) (v0:=v0) (g:=g) (by rw[BB_eq];omega)
    by_cases hrv:(1000000000:Int)≤(r:Int)+(v1:Int)
    · have HL:=hid (hI.out.last Hv0.out Hp1.out Hp2.out hne (by omega) (by rw[BB_eq];omega))
      clear hne
      go_wp2
      go_quiet (fail)
      have HN4:=hid (below_drewN' hN.out nq)
      have g1':(wr.drewN nq).cell? ⟨b2,o2+(n-1),none⟩=some (.int .u64 (v1:Int)):=g1
      clear h2 h1 h0 g1 g0
      generalize wr.drewN nq=w4 at *
      go_wp2
      go_ret
      exact⟨g-1,ret_int1 (by omega),HL.out,HN4.out⟩
    · have hrv3:decide ((1000000000:Int)≤(r:Int)+(v1:Int))=false:=decide_eq_false hrv
      have HL:=hid (hI.out.less hne (by omega) (by rw[BB_eq];omega))
      clear hne
      go_wp2
      go_quiet (fail)
      have HN4:=hid (below_drewN' hN.out nq)
      have g1':(wr.drewN nq).cell? ⟨b2,o2+(n-1),none⟩=some (.int .u64 (v1:Int)):=g1
      clear h2 h1 h0 g1 g0
      generalize wr.drewN nq=w4 at *
      go_wp2
      go_roundw
      case rel=>exact⟨g-1,r+v1,val_int1 (by omega),val_int1 (by omega),HL,HN4⟩
      case measure=>simp[intOf];omega
  · obtain⟨pr,hpr⟩:∃ p:Nat,p=g*v0:=⟨_,rfl⟩
    have e1:(g:Int)*(v0:Int)=(pr:Int):=by rw[hpr];exact(Int.natCast_mul _ _).symm
    have hle:pr≤1000000000*1000000000:=by rw[hpr];exact Nat.mul_le_mul (by omega) (by omega)
    have w1:IntKind.u64.wrap (pr:Int)=(pr:Int):=IntWalk.u64_in _ (by omega)
    have hbig':decide ((1000000000:Int)≤(g:Int))=false:=decide_eq_false hbig
    clear hle
    by_cases ht:(r:Int)*1000000000+(p0:Int)<(pr:Int)
    · have hne:=hI.out.test (by rw[BB_eq,← hpr];omega)
      have hgp:0<g:=by
       rcases Nat.eq_zero_or_pos g with h|h
       · rw[h,Nat.zero_mul]at hpr;omega
       · exact h
      have HPR:=hid hpr
      clear hpr
      by_cases hrv:(1000000000:Int)≤(r:Int)+(v1:Int)
      · have HL:=hid (hI.out.last Hv0.out Hp1.out Hp2.out hne (by omega) (by rw[BB_eq];omega))
        clear hne
        go_wp2
        go_quiet (fail)
        have HN4:=hid (below_drewN' hN.out nq)
        have g1':(wr.drewN nq).cell? ⟨b2,o2+(n-1),none⟩=some (.int .u64 (v1:Int)):=g1
        clear h2 h1 h0 g1 g0
        generalize wr.drewN nq=w4 at *
        go_wp2
        go_ret
        exact⟨g-1,ret_int1 (by omega),HL.out,HN4.out⟩
      · have hrv3:decide ((1000000000:Int)≤(r:Int)+(v1:Int))=false:=decide_eq_false hrv
        have HL:=hid (hI.out.less hne (by omega) (by rw[BB_eq];omega))
        clear hne
        go_wp2
        go_quiet (fail)
        have HN4:=hid (below_drewN' hN.out nq)
        have g1':(wr.drewN nq).cell? ⟨b2,o2+(n-1),none⟩=some (.int .u64 (v1:Int)):=g1
        clear h2 h1 h0 g1 g0
        generalize wr.drewN nq=w4 at *
        go_wp2
        go_roundw
        case rel=>exact⟨g-1,r+v1,val_int1 (by omega),val_int1 (by omega),HL,HN4⟩
        case measure=>simp[intOf];omega
    · have ht3:decide ((r:Int)*1000000000+(p0:Int)<(pr:Int))=false:=decide_eq_false ht
      have HL:=hid (hI.out.fin (by rw[BB_eq];omega) (by rw[BB_eq,← hpr];omega))
      have HPR:=hid hpr
      clear hpr
      go_wp2
      go_quiet (fail)
      have HN4:=hid (below_drewN' hN.out nq)
      go_wp2
      go_ret
      exact⟨g,rfl,HL.out,HN4.out⟩
end Go.Proofs.YtcihodmmaclihaaGreatDoor
set_option maxRecDepth 100000
set_option maxHeartbeats 20000000
open Go.Lib (hid)
namespace Go.Gb
def SubI (xs vs:List Nat) (t:Nat) (ys:List Nat) (i c:Nat):Prop:=ys.length=i∧(∀ y∈ys,y<BB)∧c≤BB∧wval (xs.take i)+BB^i*c=wval ys+t*wval (vs.take i)
theorem SubI.start (xs vs:List Nat)(t:Nat):SubI xs vs t [] 0 0:=⟨rfl,by simp,Nat.zero_le _,by simp[wval]⟩
theorem sub_lin {A Bi c W T x c' y tv:Nat}(h:A+Bi*c=W+T)(hx:x+BB*c'=y+(tv+c)):A+Bi*x+Bi*BB*c'=W+Bi*y+(T+Bi*tv):=by
 have:=congrArg (Bi * ·) hx
 simp only[Nat.mul_add]at this
 rw[Nat.mul_assoc]
 omega
theorem all_snoc {ys:List Nat}{y:Nat}(h:∀ y∈ys,y<BB)(hy:y<BB):∀ w∈ys++[y],w<BB:=by
 intro w hw
 rcases List.mem_append.1 hw with hw|hw
 · exact h w hw
 · rw[List.mem_singleton.1 hw];exact hy
theorem SubI.next {xs vs ys:List Nat}{t i c y c':Nat}(h:SubI xs vs t ys i c)(hc:c'≤BB)(hy:y<BB)(he:xs.getD i 0+BB*c'=y+(t*vs.getD i 0+c)):SubI xs vs t (ys++[y]) (i+1) c':=by
 obtain⟨h1,h2,h3,h4⟩:=h
 refine⟨by simp[h1],all_snoc h2 hy,hc,?_⟩
 have:=sub_lin h4 he
 rw[take_succ_any,take_succ_any,wval_snoc,h1,Nat.pow_succ,Nat.mul_add t]
 rw[show t*(BB^i*vs.getD i 0)=BB^i*(t*vs.getD i 0) by rw[Nat.mul_left_comm]]
 omega
theorem SubI.last {xs vs ys:List Nat}{t n c y k:Nat}(h:SubI xs vs t ys n c)(hv:vs.length=n)(hx:xs.length=n+1)(hy:y<BB)(he:xs.getD n 0+BB*k=y+c) :
 (ys++[y]).length=n+1∧(∀ w∈ys++[y],w<BB)∧wval xs+BB^(n+1)*k=wval (ys++[y])+t*wval vs:=by
 obtain⟨h1,h2,h3,h4⟩:=h
 refine⟨by simp[h1],all_snoc h2 hy,?_⟩
 have e1:wval xs=wval (xs.take n)+BB^n*xs.getD n 0:=by rw[← take_succ_any,List.take_of_length_le (by omega)]
 rw[List.take_of_length_le (show vs.length≤n by omega)]at h4
 have:=sub_lin (tv:=0) (x:=xs.getD n 0) (c':=k) (y:=y) h4 (by omega)
 rw[e1,wval_snoc,h1,Nat.pow_succ]
 omega
theorem sub_carry {t v c:Nat}(ht:t<BB)(hv:v<BB)(hc:c≤BB):t*v≤999999998000000001∧(t*v+c) / BB≤999999999:=by
 have h:=word_mul ht hv
 have:=BB_eq
 refine⟨h,?_⟩
 rw[BB_eq]at *
 omega
theorem SumInv.step {x y os:List Nat}{i c:Nat}(h:SumInv x y os i c)(hx:x.getD i 0<BB)(hy:y.getD i 0<BB):SumInv x y (os++[(x.getD i 0+y.getD i 0+c)%BB]) (i+1) ((x.getD i 0+y.getD i 0+c) / BB):=by
 have hc:=h.2.2.1
 by_cases hs:x.getD i 0+y.getD i 0+c<BB
 · rw[Nat.mod_eq_of_lt hs,Nat.div_eq_of_lt hs];exact h.small hs
 · have e1:(x.getD i 0+y.getD i 0+c) / BB=1:=by rw[BB_eq]at *;omega
   have e2:(x.getD i 0+y.getD i 0+c)%BB=x.getD i 0+y.getD i 0+c-BB:=by rw[BB_eq]at *;omega
   rw[e1,e2]
   exact h.big hx hy (by omega)
end Go.Gb
namespace Go.Proofs.YtcihodmmaclihaaGreatDoor
open Go.RowKit Go.Gb
theorem set_mid' (pre ys r:List Nat)(x v:Nat):(pre++(ys++(x :: r))).set (pre.length+ys.length) v=pre++(ys++(v :: r)):=by simp
theorem grown_cell {w w':World}{g b i:Nat}(h:w.grownBy w' (some g))(hb:b<w.heap.size)(hne:b≠g):w'.cell? ⟨b,i,none⟩=w.cell? ⟨b,i,none⟩ :=
 World.cell?_of_block (w:=w) (h.block b hb (fun e=>by cases e;exact hne rfl))
theorem subT_any (g c b2 o2 c2 n t:Nat)(pre xs post vs:List Nat)(hxl:xs.length=n+1)(hvl:vs.length=n)(hn:n≤100000)(ht:t<BB)(hx:∀ x∈xs,x<BB)(hv:∀ v∈vs,v<BB)(w:World)
 (hb:Blk w g (pre++(xs++post))) (hb2:b2<w.heap.size) (hne:b2≠g) (hcv:∀ i,i<n→w.cell? ⟨b2,o2+i,none⟩=some (.int .u64 ((vs.getD i 0:Nat):Int))) :
 Calls Tryz.prog 202 #[.slice (some ⟨g,pre.length,none⟩) (n+1) c,.slice (some ⟨b2,o2,none⟩) n c2,.int .u64 (t:Int)] w fun e w' =>
  ∃ (ys:List Nat) (k:Nat),e=.returned (.bool (decide (k=1)))∧k≤1∧ys.length=n+1∧(∀ y∈ys,y<BB)∧wval xs+BB^(n+1)*k=wval ys+t*wval vs∧Blk w' g (pre++(ys++post))∧w.grownBy w' (some g):=by
 have HX:=hid hx
 have HV:=hid hv
 have HB:=hid hb
 have HCV:=hid hcv
 have HT:=hid ht
 have HXL:=hid hxl
 have HVL:=hid hvl
 clear hx hv hb hcv ht hxl hvl
 go_enter Tryz.func202,Tryz.ntmps202
 go_wp2
 go_loopw [7,8,9,10,11,16] (fun cc _ _ _ _ ii wr=>∃ (i k:Nat) (ys:List Nat),i≤n∧ii=.int .i64 i∧cc=.int .u64 (k:Int)∧Hid (SubI xs vs t ys i k)∧Hid (Blk wr g (pre++(ys++(xs.drop i++post))))∧Hid (w.grownBy wr (some g))) (fun _ _ _ _ _ ii _=>n-(intOf ii).toNat)
 case atStart=>exact⟨0,0,[],Nat.zero_le _,rfl,rfl,SubI.start xs vs t,HB,World.grownBy.refl _ _⟩
 case round =>
  obtain⟨i,k,ys,hi,rfl,rfl,hI,hB,hG⟩:=hrel
  have hdr:=drop_consD (xs:=xs) (i:=i) (by have:=HXL.out;omega)
  have hxw:=HX.out _ (mem_getD (xs:=xs) (i:=i) (by have:=HXL.out;omega))
  have hB':=hB.out
  rw[hdr,List.cons_append]at hB'
  have hyl:ys.length=i:=hI.out.1
  have hcell:=hB'.cell (i:=pre.length+ys.length) (by simp)
  have hfree:=hB'.free (pre.length+ys.length)
  rw[get_mid]at hcell
  rw[hyl]at hcell hfree
  have hk:k≤1000000000:=by have:=hI.out.2.2.1;have:=BB_eq;omega
  have hk2:(k:Int)≤1000000000:=by omega
  by_cases hlt:i<n
  · have hcv:=(grown_cell hG.out hb2 hne).trans (HCV.out i hlt)
    have hvw:=HV.out _ (mem_getD (xs:=vs) (i:=i) (by have:=HVL.out;omega))
    have hpc:=sub_carry HT.out hvw hI.out.2.2.1
    have hset:∀ (wr':World) (y0:Nat),Blk wr' g (pre++(ys++(y0 :: (xs.drop (i+1)++post))))→∀ z:Nat,Blk (wr'.setCell ⟨g,pre.length+i,none⟩ (.int .u64 (z:Int))) g (pre++(ys++(z :: (xs.drop (i+1)++post)))):=by
        intro wr' y0 h z
        have:=h.set (pre.length+ys.length) z
        rwa [set_mid',hyl]at this
    have hnx:=fun(c' y:Nat) (h1:c'≤BB) (h2:y<BB) h3=>hI.out.next (y:=y) (c':=c') h1 h2 h3
    have HNX:=hid hnx
    have HSET:=hid hset
    have HB':=hid hB'
    clear hnx hset hB' hdr hyl hB
    generalize xs.getD i 0=x at *
    generalize vs.getD i 0=v at *
    obtain⟨p,hp⟩:∃ p:Nat,p=t*v:=⟨_,rfl⟩
    have e1:(t:Int)*(v:Int)=(p:Int):=by rw[hp];exact(Int.natCast_mul _ _).symm
    rw[← hp]at hpc HNX
    have w1:IntKind.u64.wrap (p:Int)=(p:Int):=IntWalk.u64_in _ (by omega)
    obtain⟨q,hq⟩:∃ q:Nat,q=(p+k) / BB:=⟨_,rfl⟩
    obtain⟨lo,hlo⟩:∃ lo:Nat,lo=(p+k)%BB:=⟨_,rfl⟩
    rw[← hq]at hpc
    have hmod:((p:Int)+(k:Int))%1000000000=(lo:Int):=by rw[hlo,BB_eq];omega
    have hdiv:((p:Int)+(k:Int)) / 1000000000=(q:Int):=by rw[hq,BB_eq];omega
    have hpk:p+k=BB*q+lo:=by rw[hq,hlo];exact(Nat.div_add_mod _ _).symm
    have hlo2:(lo:Int)≤999999999:=by rw[BB_eq]at hlo;omega
    have hx2:(x:Int)≤999999999:=by rw[BB_eq]at hxw;omega
    have hp2:(p:Int)≤999999998000000001:=by omega
    have hq2:(q:Int)≤999999999:=by omega
    have HPK:=hid hpk
    have i1:(i:Int)<(n:Int):=by omega
    have i3:(n:Int)≤100000:=by omega
    clear hp hq hlo hpk hpc hvw hxw hk
    by_cases hb:(x:Int)<(lo:Int)
    · have HN1:=hid (HNX.out (q+1) (x+BB-lo) (by rw[BB_eq];omega) (by rw[BB_eq];omega) (by rw[HPK.out,Nat.mul_add];rw[BB_eq];omega))
      have HS1:=hid (HSET.out _ _ (HSET.out _ _ HB'.out (x+1000000000)) (x+BB-lo))
      have hG1:=hid (Lib.grownBy_setB (Lib.grownBy_setB hG.out (pre.length+i) (.int .u64 ((x+1000000000:Nat):Int))) (pre.length+i) (.int .u64 ((x+BB-lo:Nat):Int)))
      have hval:((x:Int)+1000000000-(lo:Int))=((x+BB-lo:Nat):Int):=by rw[BB_eq];omega
      have hval2:((x+1000000000:Nat):Int)=(x:Int)+1000000000:=by omega
      rw[← hval,hval2]at HS1 hG1
      clear HNX HSET HB' hval hval2
      go_wp2
      go_roundw
      case rel=>exact⟨i+1,q+1,ys++[x+BB-lo],by omega,by go_num,val_int1 (by omega),HN1,by rw[List.append_assoc];exact HS1,hG1⟩
      case measure=>simp[intOf];omega
    · have hb':decide ((x:Int)<(lo:Int))=false:=decide_eq_false hb
      have HN1:=hid (HNX.out q (x-lo) (by rw[BB_eq];omega) (by rw[BB_eq];omega) (by rw[HPK.out];omega))
      have HS1:=hid (HSET.out _ _ HB'.out (x-lo))
      have hG1:=hid (Lib.grownBy_setB hG.out (pre.length+i) (.int .u64 ((x-lo:Nat):Int)))
      have hval:((x:Int)-(lo:Int))=((x-lo:Nat):Int):=by omega
      rw[← hval]at HS1 hG1
      clear HNX HSET HB' hval
      go_wp2
      go_roundw
      case rel=>exact⟨i+1,q,ys++[x-lo],by omega,by go_num,val_int1 (by omega),HN1,by rw[List.append_assoc];exact HS1,hG1⟩
      case measure=>simp[intOf];omega
  · have hi':i=n:=by omega
    subst hi'
    have hd0:xs.drop (i+1)=[]:=List.drop_of_length_le (by have:=HXL.out;omega)
    rw[hd0,List.nil_append]at hB'
    have hlast:=fun(kk y:Nat) (h2:y<BB) h3=>hI.out.last (y:=y) (k:=kk) HVL.out HXL.out h2 h3
    have hset:∀ (wr':World) (y0:Nat),Blk wr' g (pre++(ys++(y0 :: post)))→∀ z:Nat,Blk (wr'.setCell ⟨g,pre.length+i,none⟩ (.int .u64 (z:Int))) g (pre++(ys++(z :: post))):=by
        intro wr' y0 h z
        have:=h.set (pre.length+ys.length) z
        rwa [set_mid',hyl]at this
    have HL:=hid hlast
    have HSET:=hid hset
    have HB':=hid hB'
    clear hlast hset hB' hdr hyl hB hI hd0
    generalize xs.getD i 0=x at *
    have hx2:(x:Int)≤999999999:=by rw[BB_eq]at hxw;omega
    clear hxw
    by_cases hb:(x:Int)<(k:Int)
    · have HF:=hid (HL.out 1 (x+BB-k) (by rw[BB_eq];omega) (by rw[BB_eq];omega))
      have HS1:=hid (HSET.out _ _ (HSET.out _ _ HB'.out (x+1000000000)) (x+BB-k))
      have hG1:=hid (Lib.grownBy_setB (Lib.grownBy_setB hG.out (pre.length+i) (.int .u64 ((x+1000000000:Nat):Int))) (pre.length+i) (.int .u64 ((x+BB-k:Nat):Int)))
      have hval:((x:Int)+1000000000-(k:Int))=((x+BB-k:Nat):Int):=by rw[BB_eq];omega
      have hval2:((x+1000000000:Nat):Int)=(x:Int)+1000000000:=by omega
      rw[← hval,hval2]at HS1 hG1
      clear HL HSET HB' hval hval2
      go_wp2
      go_ret
      obtain⟨f1,f2,f3⟩:=HF.out
      exact⟨ys++[x+BB-k],1,rfl,by omega,f1,f2,f3,by rw[List.append_assoc];exact HS1.out,hG1.out⟩
    · have hb':decide ((x:Int)<(k:Int))=false:=decide_eq_false hb
      have HF:=hid (HL.out 0 (x-k) (by rw[BB_eq];omega) (by omega))
      have HS1:=hid (HSET.out _ _ HB'.out (x-k))
      have hG1:=hid (Lib.grownBy_setB hG.out (pre.length+i) (.int .u64 ((x-k:Nat):Int)))
      have hval:((x:Int)-(k:Int))=((x-k:Nat):Int):=by omega
      rw[← hval]at HS1 hG1
      clear HL HSET HB' hval
      go_wp2
      go_ret
      obtain⟨f1,f2,f3⟩:=HF.out
      exact⟨ys++[x-k],0,rfl,by omega,f1,f2,f3,by rw[List.append_assoc];exact HS1.out,hG1.out⟩
end Go.Proofs.YtcihodmmaclihaaGreatDoor
