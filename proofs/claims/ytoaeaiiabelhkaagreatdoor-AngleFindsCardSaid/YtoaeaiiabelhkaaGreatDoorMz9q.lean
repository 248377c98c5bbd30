/- texts -/
import Derived.Test.YtoaeaiiabelhkaaGreatDoorMz6q
import Derived.Laws.CopyOwn
set_option maxRecDepth 100000
set_option maxHeartbeats 20000000
open Go.Lib (hid)
namespace Go.Gb
def GOK (p2 p1 p0 v1 v0 g:Nat):Prop:=g<BB∧g*(v1*BB+v0)≤(p2*BB+p1)*BB+p0∧∀ q,q<BB→q*(v1*BB+v0)≤(p2*BB+p1)*BB+p0→q≤g
def GI (p2 p1 p0 v1 v0 g r:Nat):Prop:=g*v1+r=p2*BB+p1∧g≤BB+1∧r<BB∧∀ q,q<BB→q*(v1*BB+v0)≤(p2*BB+p1)*BB+p0→q≤g
theorem GI.start {p2 p1 p0 v1 v0:Nat}(hv1:500000000≤v1)(hv1':v1<BB)(hp1:p1<BB)(hp0:p0<BB)(hp2:p2≤v1):GI p2 p1 p0 v1 v0 ((p2*BB+p1) / v1) ((p2*BB+p1)%v1):=by
 have hv:0<v1:=by omega
 refine⟨by rw[Nat.mul_comm];exact Nat.div_add_mod _ _,?_,Nat.lt_trans (Nat.mod_lt _ hv) hv1',?_⟩
 · have h1:p2*BB≤v1*BB:=Nat.mul_le_mul_right _ hp2
   have h2:(p2*BB+p1) / v1<BB+2:=by
    rw[Nat.div_lt_iff_lt_mul hv,Nat.add_mul,Nat.mul_comm BB v1];have:=aG;omega
   omega
 · intro q _ hq
   rw[Nat.le_div_iff_mul_le hv];have h1:q*(v1*BB+v0)=q*v1*BB+q*v0:=by rw[Nat.mul_add,Nat.mul_assoc]
   have h2:q*v1*BB<(p2*BB+p1+1)*BB:=by rw[Nat.add_mul _ 1,Nat.one_mul];omega
   have:=Nat.lt_of_mul_lt_mul_right h2;omega
theorem GI.less {p2 p1 p0 v1 v0 g r:Nat}(h:GI p2 p1 p0 v1 v0 g r)(hg:∀ q,q<BB→q*(v1*BB+v0)≤(p2*BB+p1)*BB+p0→q≠g)(hgp:0<g)(hr:r+v1<BB):GI p2 p1 p0 v1 v0 (g-1) (r+v1):=by
 obtain⟨h1,h2,h3,h4⟩:=h;refine⟨?_,by omega,hr,fun q hq hq2=>?_⟩
 · have:g*v1=(g-1)*v1+v1:=by
    conv=>lhs;rw[show g=(g-1)+1 by omega,Nat.add_mul,Nat.one_mul]
   omega
 · have:=h4 q hq hq2
   have:=hg q hq hq2;omega
theorem GI.last {p2 p1 p0 v1 v0 g r:Nat}(h:GI p2 p1 p0 v1 v0 g r)(hv0:v0<BB)(hp1:p1<BB)(hp2:p2≤v1)(hg:∀ q,q<BB→q*(v1*BB+v0)≤(p2*BB+p1)*BB+p0→q≠g)(hgp:0<g)(hr:BB≤r+v1):GOK p2 p1 p0 v1 v0 (g-1):=by
 obtain⟨h1,h2,h3,h4⟩:=h
 have e1:g*v1=(g-1)*v1+v1:=by
  conv=>lhs;rw[show g=(g-1)+1 by omega,Nat.add_mul,Nat.one_mul]
 have h5:p2*BB≤v1*BB:=Nat.mul_le_mul_right _ hp2;have h6:(g-1)*v1<BB*v1:=by rw[Nat.mul_comm BB];omega
 have h7:g-1<BB:=Nat.lt_of_mul_lt_mul_right h6;refine⟨h7,?_,fun q hq hq2=>?_⟩
 · have e2:(g-1)*(v1*BB+v0)=(g-1)*v1*BB+(g-1)*v0:=by rw[Nat.mul_add,Nat.mul_assoc]
   have e3:(p2*BB+p1)*BB=((g-1)*v1)*BB+(r+v1)*BB:=by rw[← Nat.add_mul];congr 1;omega
   have e4:(g-1)*v0≤BB*BB:=Nat.mul_le_mul (Nat.le_of_lt h7) (Nat.le_of_lt hv0);have e5:BB*BB≤(r+v1)*BB:=Nat.mul_le_mul_right _ hr;omega
 · have:=h4 q hq hq2
   have:=hg q hq hq2;omega
theorem GI.big {p2 p1 p0 v1 v0 g:Nat}(hg:BB≤g):∀ q,q<BB→q*(v1*BB+v0)≤(p2*BB+p1)*BB+p0→q≠g:=fun q hq _=>by omega
theorem GI.test {p2 p1 p0 v1 v0 g r:Nat}(h:GI p2 p1 p0 v1 v0 g r)(ht:r*BB+p0<g*v0):∀ q,q<BB→q*(v1*BB+v0)≤(p2*BB+p1)*BB+p0→q≠g:=by
 intro q hq h2 e;subst e;have e2:q*(v1*BB+v0)=q*v1*BB+q*v0:=by rw[Nat.mul_add,Nat.mul_assoc]
 have e3:(p2*BB+p1)*BB=(q*v1)*BB+r*BB:=by rw[← Nat.add_mul,h.1]
 omega
theorem GI.fin {p2 p1 p0 v1 v0 g r:Nat}(h:GI p2 p1 p0 v1 v0 g r)(hg:g<BB)(ht:g*v0≤r*BB+p0):GOK p2 p1 p0 v1 v0 g:=by
 refine⟨hg,?_,h.2.2.2⟩;have e2:g*(v1*BB+v0)=g*v1*BB+g*v0:=by rw[Nat.mul_add,Nat.mul_assoc]
 have e3:(p2*BB+p1)*BB=(g*v1)*BB+r*BB:=by rw[← Nat.add_mul,h.1]
 omega
end Go.Gb
namespace Go.Proofs.YtoaeaiiabelhkaaGreatDoor
open Go.RowKit Go.Gb
def GC (b1 o1 b2 o2 n p2 p1 p0 v1 v0:Nat) (w:World):Prop :=
 w.cell? ⟨b1,o1+n,none⟩=some (.int .u64 (p2:Int))∧w.cell? ⟨b1,o1+(n-1),none⟩=some (.int .u64 (p1:Int))∧w.cell? ⟨b1,o1+(n-2),none⟩=some (.int .u64 (p0:Int)) ∧
 w.cell? ⟨b2,o2+(n-1),none⟩=some (.int .u64 (v1:Int))∧w.cell? ⟨b2,o2+(n-2),none⟩=some (.int .u64 (v0:Int))
theorem GC.on {b1 o1 b2 o2 n p2 p1 p0 v1 v0:Nat}{w w':World}(h:GC b1 o1 b2 o2 n p2 p1 p0 v1 v0 w)(hb:Below w.heap.size w w'):GC b1 o1 b2 o2 n p2 p1 p0 v1 v0 w':=by
 obtain⟨h1,h2,h3,h4,h5⟩:=h;exact⟨(hb.cell (World.block_lt_of_cell? _ _ h1)).trans h1,(hb.cell (World.block_lt_of_cell? _ _ h2)).trans h2,(hb.cell (World.block_lt_of_cell? _ _ h3)).trans h3,(hb.cell (World.block_lt_of_cell? _ _ h4)).trans h4,(hb.cell (World.block_lt_of_cell? _ _ h5)).trans h5⟩
theorem xS {k:IntKind}{a b:Int}(h:a=b):Ending.returned (.int k a)=.returned (.int k b):=by rw[h]
theorem cZ {k:IntKind}{a b:Int}(h:a=b):Value.int k a=.int k b:=by rw[h]
theorem z1r (b1 o1 c1 b2 o2 c2 n p2 p1 p0 v1 v0:Nat)(hn:2≤n)(hn2:n≤100000)(hv1:500000000≤v1)(hv1':v1<1000000000)(hv0:v0<1000000000)(hp1:p1<1000000000)(hp0:p0<1000000000)(hp2:p2≤v1)(w:World)
 (hc:GC b1 o1 b2 o2 n p2 p1 p0 v1 v0 w) :
 Calls Tryz.prog 253 #[.slice (some ⟨b1,o1,none⟩) (n+1) c1,.slice (some ⟨b2,o2,none⟩) n c2] w fun e w'=>∃ g:Nat,e=.returned (.int .u64 (g:Int))∧GOK p2 p1 p0 v1 v0 g∧Below w.heap.size w w':=by
 have hst:=GI.start (v0:=v0) hv1 (by rw[aG];exact hv1') (by rw[aG];exact hp1) (by rw[aG];exact hp0) hp2;have hvz:((v1:Int)==0)=false:=beq_eq_false_iff_ne.2 (by omega);have hq:((p2:Int)*1000000000+(p1:Int)) / (v1:Int)=(((p2*BB+p1) / v1:Nat):Int):=by rw[aG];rfl
 have hm:((p2:Int)*1000000000+(p1:Int))%(v1:Int)=(((p2*BB+p1)%v1:Nat):Int):=by rw[aG];rfl
 obtain ⟨HS,HQ,HM,HC⟩:=aN hst hq hm hc;have Hv0:=hid (show v0<BB by rw[aG];exact hv0);have Hp1:=hid (show p1<BB by rw[aG];exact hp1);have Hp2:=hid hp2;have k0:(500000000:Int)≤(v1:Int):=by omega
 have k1:(v1:Int)≤999999999:=by omega
 have k2:(v0:Int)≤999999999:=by omega
 have k3:(p2:Int)≤999999999:=by omega
 have k4:(p1:Int)≤999999999:=by omega
 have k5:(p0:Int)≤999999999:=by omega
 have i1:(2:Int)≤(n:Int):=by omega
 have i2:(n:Int)≤100000:=by omega
 obtain⟨h2,h1,h0,g1,g0⟩:=hc;clear hst hq hm hn hn2 hv1 hv1' hv0 hp1 hp0 hp2;go_enter Tryz.func253,Tryz.ntmps253
 go_wp2;go_quiet (fail)
 go_wp2;have HN2:=hid (below_drewN' (Below.refl w.heap.size w) nq);clear h2 h1 h0 g1 g0;obtain⟨h2,h1,h0,g1,g0⟩:=HC.o.on HN2.o;generalize w.drewN nq=w2 at *;go_quiet (fail)
 have HN3:=hid (below_drewN' HN2.o nq);clear h2 h1 h0 g1 g0 HN2;generalize w2.drewN nq=w3 at *;go_wp2;go_loopw [7,8] (fun gg rr wr=>∃ (g r:Nat),gg=.int .u64 (g:Int)∧rr=.int .u64 (r:Int)∧Hid (GI p2 p1 p0 v1 v0 g r)∧Hid (Below w.heap.size w wr)) (fun gg _ _=>(intOf gg).toNat)
 case atStart=>exact⟨(p2*BB+p1) / v1,(p2*BB+p1)%v1,by rw[HQ.o],by rw[HM.o],HS,HN3⟩
 case round =>
  obtain⟨g,r,rfl,rfl,hI,hN⟩:=hrel;obtain⟨h2,h1,h0,g1,g0⟩:=HC.o.on hN.o;have hg:(g:Int)≤1000000001:=by have:=hI.o.2.1;have:=aG;omega
  have hr:(r:Int)≤999999999:=by have:=hI.o.2.2.1;have:=aG;omega
  by_cases hbig:(1000000000:Int)≤(g:Int)
  · have hne:=GI.big (p2:=p2) (p1:=p1) (p0:=p0) (v1:=v1) (v0:=v0) (g:=g) (by rw[aG];omega)
    by_cases hrv:(1000000000:Int)≤(r:Int)+(v1:Int)
    · have HL:=hid (hI.o.last Hv0.o Hp1.o Hp2.o hne (by omega) (by rw[aG];omega))
      clear hne;go_wp2;go_quiet (fail)
      have HN4:=hid (below_drewN' hN.o nq);have g1':(wr.drewN nq).cell? ⟨b2,o2+(n-1),none⟩=some (.int .u64 (v1:Int)):=g1;clear h2 h1 h0 g1 g0;generalize wr.drewN nq=w4 at *;go_wp2;go_ret
      exact⟨g-1,xS (by omega),HL.o,HN4.o⟩
    · have hrv3:decide ((1000000000:Int)≤(r:Int)+(v1:Int))=false:=decide_eq_false hrv
      have HL:=hid (hI.o.less hne (by omega) (by rw[aG];omega));clear hne;go_wp2;go_quiet (fail)
      have HN4:=hid (below_drewN' hN.o nq);have g1':(wr.drewN nq).cell? ⟨b2,o2+(n-1),none⟩=some (.int .u64 (v1:Int)):=g1;clear h2 h1 h0 g1 g0;generalize wr.drewN nq=w4 at *;go_wp2;go_roundw
      case rel=>exact⟨g-1,r+v1,cZ (by omega),cZ (by omega),HL,HN4⟩
      case measure=>simp[intOf];omega
  · obtain⟨pr,hpr⟩:∃ p:Nat,p=g*v0:=⟨_,rfl⟩
    have e1:(g:Int)*(v0:Int)=(pr:Int):=by rw[hpr];exact(Int.natCast_mul _ _).symm
    have hle:pr≤1000000000*1000000000:=by rw[hpr];exact Nat.mul_le_mul (by omega) (by omega)
    have w1:IntKind.u64.wrap (pr:Int)=(pr:Int):=IntWalk.u64_in _ (by omega);have hbig':decide ((1000000000:Int)≤(g:Int))=false:=decide_eq_false hbig;clear hle;by_cases ht:(r:Int)*1000000000+(p0:Int)<(pr:Int)
    · have hne:=hI.o.test (by rw[aG,← hpr];omega)
      have hgp:0<g:=by
       rcases Nat.eq_zero_or_pos g with h|h
       · rw[h,Nat.zero_mul]at hpr;omega
       · exact h
      have HPR:=hid hpr;clear hpr;by_cases hrv:(1000000000:Int)≤(r:Int)+(v1:Int)
      · have HL:=hid (hI.o.last Hv0.o Hp1.o Hp2.o hne (by omega) (by rw[aG];omega))
        clear hne;go_wp2;go_quiet (fail)
        have HN4:=hid (below_drewN' hN.o nq);have g1':(wr.drewN nq).cell? ⟨b2,o2+(n-1),none⟩=some (.int .u64 (v1:Int)):=g1;clear h2 h1 h0 g1 g0;generalize wr.drewN nq=w4 at *;go_wp2;go_ret
        exact⟨g-1,xS (by omega),HL.o,HN4.o⟩
      · have hrv3:decide ((1000000000:Int)≤(r:Int)+(v1:Int))=false:=decide_eq_false hrv
        have HL:=hid (hI.o.less hne (by omega) (by rw[aG];omega));clear hne;go_wp2;go_quiet (fail)
        have HN4:=hid (below_drewN' hN.o nq);have g1':(wr.drewN nq).cell? ⟨b2,o2+(n-1),none⟩=some (.int .u64 (v1:Int)):=g1;clear h2 h1 h0 g1 g0;generalize wr.drewN nq=w4 at *;go_wp2;go_roundw
        case rel=>exact⟨g-1,r+v1,cZ (by omega),cZ (by omega),HL,HN4⟩
        case measure=>simp[intOf];omega
    · have ht3:decide ((r:Int)*1000000000+(p0:Int)<(pr:Int))=false:=decide_eq_false ht
      have HL:=hid (hI.o.fin (by rw[aG];omega) (by rw[aG,← hpr];omega));have HPR:=hid hpr;clear hpr;go_wp2;go_quiet (fail)
      have HN4:=hid (below_drewN' hN.o nq);go_wp2;go_ret
      exact⟨g,rfl,HL.o,HN4.o⟩
end Go.Proofs.YtoaeaiiabelhkaaGreatDoor
open Go.Lib (hid)
namespace Go.Gb
def SubI (xs vs:List Nat) (t:Nat) (ys:List Nat) (i c:Nat):Prop:=ys.length=i∧(∀ y∈ys,y<BB)∧c≤BB∧ai (xs.take i)+BB^i*c=ai ys+t*ai (vs.take i)
theorem SubI.start (xs vs:List Nat)(t:Nat):SubI xs vs t [] 0 0:=⟨rfl,by simp,Nat.zero_le _,by simp[ai]⟩
theorem z0t {A Bi c W T x c' y tv:Nat}(h:A+Bi*c=W+T)(hx:x+BB*c'=y+(tv+c)):A+Bi*x+Bi*BB*c'=W+Bi*y+(T+Bi*tv):=by
 have:=congrArg (Bi * ·) hx;simp only[Nat.mul_add]at this;rw[Nat.mul_assoc];omega
theorem nk {ys:List Nat}{y:Nat}(h:∀ y∈ys,y<BB)(hy:y<BB):∀ w∈ys++[y],w<BB:=by
 intro w hw;rcases List.mem_append.1 hw with hw|hw
 · exact h w hw
 · rw[List.mem_singleton.1 hw];exact hy
theorem SubI.next {xs vs ys:List Nat}{t i c y c':Nat}(h:SubI xs vs t ys i c)(hc:c'≤BB)(hy:y<BB)(he:xs.getD i 0+BB*c'=y+(t*vs.getD i 0+c)):SubI xs vs t (ys++[y]) (i+1) c':=by
 obtain⟨h1,h2,h3,h4⟩:=h;refine⟨by simp[h1],nk h2 hy,hc,?_⟩;have:=z0t h4 he;rw[aJ,aJ,dI,h1,Nat.pow_succ,Nat.mul_add t];rw[show t*(BB^i*vs.getD i 0)=BB^i*(t*vs.getD i 0) by rw[Nat.mul_left_comm]];omega
theorem SubI.last {xs vs ys:List Nat}{t n c y k:Nat}(h:SubI xs vs t ys n c)(hv:vs.length=n)(hx:xs.length=n+1)(hy:y<BB)(he:xs.getD n 0+BB*k=y+c) :
 (ys++[y]).length=n+1∧(∀ w∈ys++[y],w<BB)∧ai xs+BB^(n+1)*k=ai (ys++[y])+t*ai vs:=by
 obtain⟨h1,h2,h3,h4⟩:=h;refine⟨by simp[h1],nk h2 hy,?_⟩;have e1:ai xs=ai (xs.take n)+BB^n*xs.getD n 0:=by rw[← aJ,List.take_of_length_le (by omega)]
 rw[List.take_of_length_le (show vs.length≤n by omega)]at h4;have:=z0t (tv:=0) (x:=xs.getD n 0) (c':=k) (y:=y) h4 (by omega);rw[e1,dI,h1,Nat.pow_succ];omega
theorem kH {t v c:Nat}(ht:t<BB)(hv:v<BB)(hc:c≤BB):t*v≤999999998000000001∧(t*v+c) / BB≤999999999:=by
 have h:=qG ht hv;have:=aG;refine⟨h,?_⟩;rw[aG]at *;omega
theorem dm.step {x y os:List Nat}{i c:Nat}(h:dm x y os i c)(hx:x.getD i 0<BB)(hy:y.getD i 0<BB):dm x y (os++[(x.getD i 0+y.getD i 0+c)%BB]) (i+1) ((x.getD i 0+y.getD i 0+c) / BB):=by
 have hc:=h.2.2.1;by_cases hs:x.getD i 0+y.getD i 0+c<BB
 · rw[Nat.mod_eq_of_lt hs,Nat.div_eq_of_lt hs];exact h.small hs
 · have e1:(x.getD i 0+y.getD i 0+c) / BB=1:=by rw[aG]at *;omega
   have e2:(x.getD i 0+y.getD i 0+c)%BB=x.getD i 0+y.getD i 0+c-BB:=by rw[aG]at *;omega
   rw[e1,e2];exact h.big hx hy (by omega)
end Go.Gb
namespace Go.Proofs.YtoaeaiiabelhkaaGreatDoor
open Go.RowKit Go.Gb
theorem iY (pre ys r:List Nat)(x v:Nat):(pre++(ys++(x :: r))).set (pre.length+ys.length) v=pre++(ys++(v :: r)):=by simp
theorem iR {w w':World}{g b i:Nat}(h:w.grownBy w' (some g))(hb:b<w.heap.size)(hne:b≠g):w'.cell? ⟨b,i,none⟩=w.cell? ⟨b,i,none⟩ :=
 World.cell?_of_block (w:=w) (h.block b hb (fun e=>by cases e;exact hne rfl))
theorem z2E (g c b2 o2 c2 n t:Nat)(pre xs post vs:List Nat)(hxl:xs.length=n+1)(hvl:vs.length=n)(hn:n≤100000)(ht:t<BB)(hx:∀ x∈xs,x<BB)(hv:∀ v∈vs,v<BB)(w:World)
 (hb:Blk w g (pre++(xs++post))) (hb2:b2<w.heap.size) (hne:b2≠g) (hcv:∀ i,i<n→w.cell? ⟨b2,o2+i,none⟩=some (.int .u64 ((vs.getD i 0:Nat):Int))) :
 Calls Tryz.prog 254 #[.slice (some ⟨g,pre.length,none⟩) (n+1) c,.slice (some ⟨b2,o2,none⟩) n c2,.int .u64 (t:Int)] w fun e w' =>
  ∃ (ys:List Nat) (k:Nat),e=.returned (.bool (decide (k=1)))∧k≤1∧ys.length=n+1∧(∀ y∈ys,y<BB)∧ai xs+BB^(n+1)*k=ai ys+t*ai vs∧Blk w' g (pre++(ys++post))∧w.grownBy w' (some g):=by
 obtain ⟨HX,HV,HB,HCV,HT,HXL,HVL⟩:=eB hx hv hb hcv ht hxl hvl;clear hx hv hb hcv ht hxl hvl;go_enter Tryz.func254,Tryz.ntmps254
 go_wp2;go_loopw [7,8,9,10,11,16] (fun cc _ _ _ _ ii wr=>∃ (i k:Nat) (ys:List Nat),i≤n∧ii=.int .i64 i∧cc=.int .u64 (k:Int)∧Hid (SubI xs vs t ys i k)∧Hid (Blk wr g (pre++(ys++(xs.drop i++post))))∧Hid (w.grownBy wr (some g))) (fun _ _ _ _ _ ii _=>n-(intOf ii).toNat)
 case atStart=>exact⟨0,0,[],Nat.zero_le _,rfl,rfl,SubI.start xs vs t,HB,World.grownBy.refl _ _⟩
 case round =>
  obtain⟨i,k,ys,hi,rfl,rfl,hI,hB,hG⟩:=hrel;have hdr:=eU (xs:=xs) (i:=i) (by have:=HXL.o;omega);have hxw:=HX.o _ (bf (xs:=xs) (i:=i) (by have:=HXL.o;omega));have hB':=hB.o;rw[hdr,List.cons_append]at hB';have hyl:ys.length=i:=hI.o.1;have hcell:=hB'.cell (i:=pre.length+ys.length) (by simp);have hfree:=hB'.free (pre.length+ys.length);rw[nZ]at hcell;rw[hyl]at hcell hfree;have hk:k≤1000000000:=by have:=hI.o.2.2.1;have:=aG;omega
  have hk2:(k:Int)≤1000000000:=by omega
  by_cases hlt:i<n
  · have hcv:=(iR hG.o hb2 hne).trans (HCV.o i hlt)
    have hvw:=HV.o _ (bf (xs:=vs) (i:=i) (by have:=HVL.o;omega));have hpc:=kH HT.o hvw hI.o.2.2.1
    have hset:∀ (wr':World) (y0:Nat),Blk wr' g (pre++(ys++(y0 :: (xs.drop (i+1)++post))))→∀ z:Nat,Blk (wr'.setCell ⟨g,pre.length+i,none⟩ (.int .u64 (z:Int))) g (pre++(ys++(z :: (xs.drop (i+1)++post)))):=by
        intro wr' y0 h z;have:=h.set (pre.length+ys.length) z;rwa [iY,hyl]at this
    have hnx:=fun(c' y:Nat) (h1:c'≤BB) (h2:y<BB) h3=>hI.o.next (y:=y) (c':=c') h1 h2 h3;obtain ⟨HNX,HSET,HB'⟩:=ak hnx hset hB';clear hnx hset hB' hdr hyl hB;generalize xs.getD i 0=x at *;generalize vs.getD i 0=v at *;obtain⟨p,hp⟩:∃ p:Nat,p=t*v:=⟨_,rfl⟩;have e1:(t:Int)*(v:Int)=(p:Int):=by rw[hp];exact(Int.natCast_mul _ _).symm
    rw[← hp]at hpc HNX;have w1:IntKind.u64.wrap (p:Int)=(p:Int):=IntWalk.u64_in _ (by omega);obtain⟨q,hq⟩:∃ q:Nat,q=(p+k) / BB:=⟨_,rfl⟩;obtain⟨lo,hlo⟩:∃ lo:Nat,lo=(p+k)%BB:=⟨_,rfl⟩;rw[← hq]at hpc;have hmod:((p:Int)+(k:Int))%1000000000=(lo:Int):=by rw[hlo,aG];omega
    have hdiv:((p:Int)+(k:Int)) / 1000000000=(q:Int):=by rw[hq,aG];omega
    have hpk:p+k=BB*q+lo:=by rw[hq,hlo];exact(Nat.div_add_mod _ _).symm
    have hlo2:(lo:Int)≤999999999:=by rw[aG]at hlo;omega
    have hx2:(x:Int)≤999999999:=by rw[aG]at hxw;omega
    have hp2:(p:Int)≤999999998000000001:=by omega
    have hq2:(q:Int)≤999999999:=by omega
    have HPK:=hid hpk;have i1:(i:Int)<(n:Int):=by omega
    have i3:(n:Int)≤100000:=by omega
    clear hp hq hlo hpk hpc hvw hxw hk;by_cases hb:(x:Int)<(lo:Int)
    · have HN1:=hid (HNX.o (q+1) (x+BB-lo) (by rw[aG];omega) (by rw[aG];omega) (by rw[HPK.o,Nat.mul_add];rw[aG];omega))
      have HS1:=hid (HSET.o _ _ (HSET.o _ _ HB'.o (x+1000000000)) (x+BB-lo));have hG1:=hid (Lib.grownBy_setB (Lib.grownBy_setB hG.o (pre.length+i) (.int .u64 ((x+1000000000:Nat):Int))) (pre.length+i) (.int .u64 ((x+BB-lo:Nat):Int)));have hval:((x:Int)+1000000000-(lo:Int))=((x+BB-lo:Nat):Int):=by rw[aG];omega
      have hval2:((x+1000000000:Nat):Int)=(x:Int)+1000000000:=by omega
      rw[← hval,hval2]at HS1 hG1;clear HNX HSET HB' hval hval2;go_wp2;go_roundw
      case rel=>exact⟨i+1,q+1,ys++[x+BB-lo],by omega,by go_num,cZ (by omega),HN1,by rw[List.append_assoc];exact HS1,hG1⟩
      case measure=>simp[intOf];omega
    · have hb':decide ((x:Int)<(lo:Int))=false:=decide_eq_false hb
      have HN1:=hid (HNX.o q (x-lo) (by rw[aG];omega) (by rw[aG];omega) (by rw[HPK.o];omega));have HS1:=hid (HSET.o _ _ HB'.o (x-lo));have hG1:=hid (Lib.grownBy_setB hG.o (pre.length+i) (.int .u64 ((x-lo:Nat):Int)));have hval:((x:Int)-(lo:Int))=((x-lo:Nat):Int):=by omega
      rw[← hval]at HS1 hG1;clear HNX HSET HB' hval;go_wp2;go_roundw
      case rel=>exact⟨i+1,q,ys++[x-lo],by omega,by go_num,cZ (by omega),HN1,by rw[List.append_assoc];exact HS1,hG1⟩
      case measure=>simp[intOf];omega
  · have hi':i=n:=by omega
    subst hi';have hd0:xs.drop (i+1)=[]:=List.drop_of_length_le (by have:=HXL.o;omega);rw[hd0,List.nil_append]at hB';have hlast:=fun(kk y:Nat) (h2:y<BB) h3=>hI.o.last (y:=y) (k:=kk) HVL.o HXL.o h2 h3
    have hset:∀ (wr':World) (y0:Nat),Blk wr' g (pre++(ys++(y0 :: post)))→∀ z:Nat,Blk (wr'.setCell ⟨g,pre.length+i,none⟩ (.int .u64 (z:Int))) g (pre++(ys++(z :: post))):=by
        intro wr' y0 h z;have:=h.set (pre.length+ys.length) z;rwa [iY,hyl]at this
    obtain ⟨HL,HSET,HB'⟩:=ak hlast hset hB';clear hlast hset hB' hdr hyl hB hI hd0;generalize xs.getD i 0=x at *;have hx2:(x:Int)≤999999999:=by rw[aG]at hxw;omega
    clear hxw;by_cases hb:(x:Int)<(k:Int)
    · have HF:=hid (HL.o 1 (x+BB-k) (by rw[aG];omega) (by rw[aG];omega))
      have HS1:=hid (HSET.o _ _ (HSET.o _ _ HB'.o (x+1000000000)) (x+BB-k));have hG1:=hid (Lib.grownBy_setB (Lib.grownBy_setB hG.o (pre.length+i) (.int .u64 ((x+1000000000:Nat):Int))) (pre.length+i) (.int .u64 ((x+BB-k:Nat):Int)));have hval:((x:Int)+1000000000-(k:Int))=((x+BB-k:Nat):Int):=by rw[aG];omega
      have hval2:((x+1000000000:Nat):Int)=(x:Int)+1000000000:=by omega
      rw[← hval,hval2]at HS1 hG1;clear HL HSET HB' hval hval2;go_wp2;go_ret
      obtain⟨f1,f2,f3⟩:=HF.o;exact⟨ys++[x+BB-k],1,rfl,by omega,f1,f2,f3,by rw[List.append_assoc];exact HS1.o,hG1.o⟩
    · have hb':decide ((x:Int)<(k:Int))=false:=decide_eq_false hb
      have HF:=hid (HL.o 0 (x-k) (by rw[aG];omega) (by omega));have HS1:=hid (HSET.o _ _ HB'.o (x-k));have hG1:=hid (Lib.grownBy_setB hG.o (pre.length+i) (.int .u64 ((x-k:Nat):Int)));have hval:((x:Int)-(k:Int))=((x-k:Nat):Int):=by omega
      rw[← hval]at HS1 hG1;clear HL HSET HB' hval;go_wp2;go_ret
      obtain⟨f1,f2,f3⟩:=HF.o;exact⟨ys++[x-k],0,rfl,by omega,f1,f2,f3,by rw[List.append_assoc];exact HS1.o,hG1.o⟩
end Go.Proofs.YtoaeaiiabelhkaaGreatDoor
open Go.Lib (hid)
namespace Go.Gb
theorem zh {y:Nat}(h1:1≤y)(h2:y<BB):500000000≤y*(BB / (y+1))∧(y+1)*(BB / (y+1))≤BB∧1≤BB / (y+1)∧BB / (y+1)<BB:=by
 have hs:(y+1)*(BB / (y+1))≤BB:=Nat.mul_div_le _ _
 have hs2:BB<(y+1)*(BB / (y+1))+(y+1):=by
  have:=Nat.div_add_mod BB (y+1);have:=Nat.mod_lt BB (show 0<y+1 by omega);omega
 have h3:1≤BB / (y+1):=(Nat.le_div_iff_mul_le (by omega)).2 (by omega);refine⟨?_,hs,h3,Nat.div_lt_self bN (by omega)⟩;generalize BB / (y+1)=s at *;rw[aG]at *;rw[Nat.add_mul,Nat.one_mul]at hs hs2;rcases Nat.lt_or_ge 1 s with hs3|hs3
 · rcases Nat.lt_or_ge 1 y with hy|hy
   · have:(y-2)*1≤(y-2)*(s-1):=Nat.mul_le_mul_left _ (by omega)
     obtain⟨y',rfl⟩:∃ y',y=y'+2:=⟨y-2,by omega⟩;obtain⟨s',rfl⟩:∃ s',s=s'+2:=⟨s-2,by omega⟩;have e1:(y'+2)*(s'+2)=y'*s'+2*y'+2*s'+4:=by rw[Nat.add_mul,Nat.mul_add,Nat.mul_add];omega
     omega
   · obtain rfl:y=1:=by omega
     omega
 · obtain rfl:s=1:=by omega
   omega
theorem uw {xs vs:List Nat}{n g:Nat}(hn:2≤n)(hxl:xs.length=n+1)(hvl:vs.length=n)(hx:∀ x∈xs,x<BB)(hv:∀ v∈vs,v<BB)(hlt:ai xs<BB*ai vs)(hv1:0<vs.getD (n-1) 0)
 (hg:GOK (xs.getD n 0) (xs.getD (n-1) 0) (xs.getD (n-2) 0) (vs.getD (n-1) 0) (vs.getD (n-2) 0) g):ai xs / ai vs≤g∧g≤ai xs / ai vs+1:=by
 obtain⟨m,rfl⟩:∃ m,n=m+2:=⟨n-2,by omega⟩;rw[show m+2-1=m+1 by omega,show m+2-2=m by omega]at *;have hxt:∀ w∈xs.take m,w<BB:=fun w hw=>hx w (List.mem_of_mem_take hw);have hvt:∀ w∈vs.take m,w<BB:=fun w hw=>hv w (List.mem_of_mem_take hw);have lx:=bW (n:=m) hxt (by simp;omega);have lv:=bW (n:=m) hvt (by simp;omega)
 have ex:ai xs=ai (xs.take m)+((xs.getD (m+2) 0*BB+xs.getD (m+1) 0)*BB+xs.getD m 0)*BB^m:=by
  have h1:ai xs=ai (xs.take (m+2+1)):=by rw[List.take_of_length_le (by omega)]
  rw[h1,aJ,aJ,aJ];simp only[Nat.pow_succ];generalize xs.getD (m+2) 0=a;generalize xs.getD (m+1) 0=b;generalize xs.getD m 0=c;generalize BB^m=P;rw[Nat.add_mul,Nat.add_mul,Nat.add_mul];rw[show a*BB*BB*P=P*BB*BB*a by rw[Nat.mul_comm,Nat.mul_comm a BB,Nat.mul_comm _ BB,← Nat.mul_assoc,← Nat.mul_assoc]];rw[show b*BB*P=P*BB*b by rw[Nat.mul_comm,Nat.mul_comm b BB,← Nat.mul_assoc]];rw[Nat.mul_comm c P];omega
 have ev:ai vs=ai (vs.take m)+(vs.getD (m+1) 0*BB+vs.getD m 0)*BB^m:=by
  have h1:ai vs=ai (vs.take (m+1+1)):=by rw[List.take_of_length_le (by omega)]
  rw[h1,aJ,aJ];simp only[Nat.pow_succ];generalize vs.getD (m+1) 0=b;generalize vs.getD m 0=c;generalize BB^m=P;rw[Nat.add_mul];rw[show b*BB*P=P*BB*b by rw[Nat.mul_comm,Nat.mul_comm b BB,← Nat.mul_assoc]];rw[Nat.mul_comm c P];omega
 obtain⟨g1,g2,g3⟩:=hg;generalize (xs.getD (m+2) 0*BB+xs.getD (m+1) 0)*BB+xs.getD m 0=T3 at *
 have hV2:BB≤vs.getD (m+1) 0*BB+vs.getD m 0:=by
  have:1*BB≤vs.getD (m+1) 0*BB:=Nat.mul_le_mul_right _ hv1;omega
 generalize vs.getD (m+1) 0*BB+vs.getD m 0=V2 at *;have hP:0<BB^m:=Nat.pow_pos bN;have hV0:0<V2:=Nat.lt_of_lt_of_le bN hV2;have hVlo:V2*BB^m≤ai vs:=by omega
 have hVhi:ai vs<(V2+1)*BB^m:=by rw[Nat.add_mul,Nat.one_mul];omega
 have hUlo:T3*BB^m≤ai xs:=by omega
 have hUhi:ai xs<(T3+1)*BB^m:=by rw[Nat.add_mul,Nat.one_mul];omega
 have hVpos:0<ai vs:=Nat.lt_of_lt_of_le (Nat.mul_pos hV0 hP) hVlo;refine⟨g3 _ ?_ ?_,vU hP hVlo hVhi hUlo g2 (by omega)⟩
 · rw[Nat.div_lt_iff_lt_mul hVpos];exact hlt
 · have:=quo_le hV0 hVlo hUhi
   rw[Nat.le_div_iff_mul_le hV0]at this;exact this
theorem pK {X Y V g k P:Nat}(hV:0<V)(hg:X / V≤g)(he:X+P*k=Y+g*V)(h0:k=0):g=X / V∧Y=X%V:=by
 subst h0;have h1:g*V≤X:=by omega
 have h2:g≤X / V:=(Nat.le_div_iff_mul_le hV).2 h1;have h3:g=X / V:=by omega
 have:=Nat.div_add_mod X V;have e:g*V=V*(X / V):=by rw[h3,Nat.mul_comm]
 exact⟨h3,by omega⟩
theorem pJ {X Y V g P:Nat}(hV:0<V)(hg:X / V≤g)(hg2:g≤X / V+1)(hY:Y<P)(he:X+P*1=Y+g*V):g-1=X / V∧1≤g∧Y+V=X%V+P:=by
 have h1:X<g*V:=by omega
 have h2:X / V<g:=by rw[Nat.div_lt_iff_lt_mul hV];exact h1
 have h3:g=X / V+1:=by omega
 have:=Nat.div_add_mod X V;have e:g*V=V*(X / V)+V:=by rw[h3,Nat.add_mul,Nat.one_mul,Nat.mul_comm]
 generalize g*V=gv at *;generalize V*(X / V)=p at *;generalize X / V=q at *;generalize X%V=r at *;exact⟨by omega,by omega,by omega⟩
theorem uL {Yt Z V r P t c:Nat}(hZ:Z<P)(hr:r<P)(hs:Yt+V=Z+P*c)(hY:Yt+P*t+V=r+P*BB):Z=r:=by
 have h:Z+P*(c+t)=r+P*BB:=by rw[Nat.mul_add];omega
 have h1:=congrArg (· % P) h;simp only[Nat.add_mul_mod_self_left,Nat.mod_eq_of_lt hZ,Nat.mod_eq_of_lt hr]at h1;exact h1
def KI (R V:Nat) (L:Nat) (us os:List Nat) (j:Nat):Prop:=us.length=L∧(∀ w∈us,w<BB)∧(∀ w∈os,w<BB)∧ai (us.drop j)<V∧R=ai us+BB^j*(ai os*V)
theorem KI.high {R V L n j:Nat}{us os:List Nat}(h:KI R V L us os (j+1))(hV:V<BB^n)(hjl:j+n<L):ai (us.drop (j+n+1))=0∧ai ((us.drop j).take (n+1))=ai (us.drop j)∧ai ((us.drop j).take (n+1))<BB*V:=by
 obtain⟨h1,h2,h3,h4,h5⟩:=h;have e1:=dw (us.drop (j+1)) n (by simp;omega);rw[List.drop_drop,show j+1+n=j+n+1 by omega]at e1
 have hz:ai (us.drop (j+n+1))=0:=by
  rcases Nat.eq_zero_or_pos (ai (us.drop (j+n+1))) with h|h
  · exact h
  · have:BB^n*1≤BB^n*ai (us.drop (j+n+1)):=Nat.mul_le_mul_left _ h
    omega
 have e2:=dw (us.drop j) (n+1) (by simp;omega);rw[List.drop_drop,show j+(n+1)=j+n+1 by omega,hz,Nat.mul_zero,Nat.add_zero]at e2;refine⟨hz,e2.symm,?_⟩;rw[← e2,fJ (by omega)];have hw:=h2 _ (bf (xs:=us) (i:=j) (by omega));have:BB*(ai (us.drop (j+1))+1)≤BB*V:=Nat.mul_le_mul_left _ h4;rw[Nat.mul_add,Nat.mul_one]at this;omega
theorem KI.step {R V L n j q:Nat}{us os zs:List Nat}(h:KI R V L us os (j+1))(hV0:0<V)(hV:V<BB^n)(hjl:j+n<L)(hzl:zs.length=n+1)(hz:∀ z∈zs,z<BB)
 (hzv:ai zs=ai ((us.drop j).take (n+1))%V) (hq:q=ai ((us.drop j).take (n+1)) / V):KI R V L (us.take j++(zs++us.drop (j+n+1))) (q :: os) j:=by
 obtain⟨g1,g2,g3⟩:=h.high hV hjl;obtain⟨h1,h2,h3,h4,h5⟩:=h;have hlen:(us.take j).length=j:=by simp;omega
 have e0:(us.take j++(zs++us.drop (j+n+1))).drop j=zs++us.drop (j+n+1):=by
  rw[List.drop_append,List.drop_of_length_le (by omega),hlen,Nat.sub_self,List.drop_zero,List.nil_append]
 have e1:ai (zs++us.drop (j+n+1))=ai zs:=by rw[dW,g1,Nat.mul_zero,Nat.add_zero]
 have hqB:q<BB:=by rw[hq,Nat.div_lt_iff_lt_mul hV0];exact g3
 refine⟨by simp[hzl];omega,?_,?_,?_,?_⟩
 · intro w hw
   rcases List.mem_append.1 hw with hw|hw
   · exact h2 w (List.mem_of_mem_take hw)
   · rcases List.mem_append.1 hw with hw|hw
     · exact hz w hw
     · exact h2 w (List.mem_of_mem_drop hw)
 · intro w hw
   rcases List.mem_cons.1 hw with hw|hw
   · rw[hw];exact hqB
   · exact h3 w hw
 · rw[e0,e1,hzv];exact Nat.mod_lt _ hV0
 · rw[dW,e1,hlen,ai]
   have e2:=dw us j (by omega);have e3:=Nat.div_add_mod (ai (us.drop j)) V;rw[g2]at hzv hq;rw[← hzv,← hq]at e3;rw[h5,e2,← e3,Nat.pow_succ];generalize ai (us.take j)=A;generalize ai zs=Z;generalize ai os=W;generalize BB^j=P;rw[Nat.mul_add P,Nat.add_mul q,Nat.mul_add P,Nat.mul_comm V q];rw[show P*BB*(W*V)=P*(BB*W*V) by rw[Nat.mul_assoc P,Nat.mul_assoc BB]];omega
theorem KI.done {R V L:Nat}{us os:List Nat}(h:KI R V L us os 0):ai us=R%V∧ai os=R / V:=by
 obtain⟨h1,h2,h3,h4,h5⟩:=h;rw[List.drop_zero]at h4;rw[Nat.pow_zero,Nat.one_mul]at h5;rw[h5,Nat.add_mul_mod_self_right,Nat.mod_eq_of_lt h4,Nat.add_mul_div_right _ _ (by omega),Nat.div_eq_of_lt h4,Nat.zero_add];exact⟨rfl,rfl⟩
end Go.Gb
namespace Go.Proofs.YtoaeaiiabelhkaaGreatDoor
open Go.RowKit Go.Gb
theorem wP (g c b2 o2 c2 n:Nat)(pre xs post vs:List Nat)(hxl:xs.length=n+1)(hvl:vs.length=n)(hn:n≤100000)(hx:∀ x∈xs,x<BB)(hv:∀ v∈vs,v<BB)(w:World)
 (hb:Blk w g (pre++(xs++post))) (hb2:b2<w.heap.size) (hne:b2≠g) (hcv:∀ i,i<n→w.cell? ⟨b2,o2+i,none⟩=some (.int .u64 ((vs.getD i 0:Nat):Int))) :
 Calls Tryz.prog 255 #[.slice (some ⟨g,pre.length,none⟩) (n+1) c,.slice (some ⟨b2,o2,none⟩) n c2] w fun e w' =>
  e=.returned (.tuple #[])∧(∃ (ys:List Nat) (k:Nat),ys.length=n∧(∀ y∈ys,y<BB)∧ai ys+BB^n*k=ai (xs.take n)+ai vs∧Blk w' g (pre++((ys++[0])++post)))∧w.grownBy w' (some g):=by
 obtain ⟨HX,HV,HB,HCV,HXL,HVL⟩:=di hx hv hb hcv hxl hvl;clear hx hv hb hcv hxl hvl;go_enter Tryz.func255,Tryz.ntmps255
 go_wp2;go_loopw [4,5,6,7,10] (fun cc _ _ _ ii wr=>∃ (i k:Nat) (ys:List Nat),i≤n∧ii=.int .i64 i∧cc=.int .u64 (k:Int)∧Hid (dm xs vs ys i k)∧Hid (Blk wr g (pre++(ys++(xs.drop i++post))))∧Hid (w.grownBy wr (some g))) (fun _ _ _ _ ii _=>n-(intOf ii).toNat)
 case atStart=>exact⟨0,0,[],Nat.zero_le _,rfl,rfl,dm.start xs vs,HB,World.grownBy.refl _ _⟩
 case round =>
  obtain⟨i,k,ys,hi,rfl,rfl,hI,hB,hG⟩:=hrel;have hdr:=eU (xs:=xs) (i:=i) (by have:=HXL.o;omega);have hxw:=HX.o _ (bf (xs:=xs) (i:=i) (by have:=HXL.o;omega));have hB':=hB.o;rw[hdr,List.cons_append]at hB';have hyl:ys.length=i:=hI.o.1;have hcell:=hB'.cell (i:=pre.length+ys.length) (by simp);have hfree:=hB'.free (pre.length+ys.length);have hset:=fun z:Nat=>hB'.set (pre.length+ys.length) z;rw[nZ]at hcell;simp only[iY]at hset;rw[hyl]at hcell hfree hset;have hk:k≤1:=hI.o.2.2.1;have hk2:(k:Int)≤1:=by omega
  by_cases hlt:i<n
  · have hcv:=(iR hG.o hb2 hne).trans (HCV.o i hlt)
    have hvw:=HV.o _ (bf (xs:=vs) (i:=i) (by have:=HVL.o;omega));have hnx:=hI.o.step hxw hvw;obtain ⟨HN1,HS1,hG1⟩:=ak hnx (hset ((xs.getD i 0+vs.getD i 0+k)%BB)) (Lib.grownBy_setB hG.o (pre.length+i) (.int .u64 (((xs.getD i 0+vs.getD i 0+k)%BB:Nat):Int)));clear hnx hset hB' hdr hyl hB;generalize xs.getD i 0=x at *;generalize vs.getD i 0=v at *;have hmod:((x:Int)+(v:Int)+(k:Int))%1000000000=(((x+v+k)%BB:Nat):Int):=by rw[aG];omega
    have hdiv:((x:Int)+(v:Int)+(k:Int)) / 1000000000=(((x+v+k) / BB:Nat):Int):=by rw[aG];omega
    have hx2:(x:Int)≤999999999:=by rw[aG]at hxw;omega
    have hv2:(v:Int)≤999999999:=by rw[aG]at hvw;omega
    have i1:(i:Int)<(n:Int):=by omega
    rw[← hmod]at HS1 hG1;have HDv:=hid hdiv;clear hmod hdiv hvw hxw hk;go_wp2;go_roundw
    case rel=>exact⟨i+1,(x+v+k) / BB,ys++[(x+v+k)%BB],by omega,by go_num,by rw[HDv.o],HN1,by rw[List.append_assoc];exact HS1,hG1⟩
    case measure=>simp[intOf];omega
  · have hi':i=n:=by omega
    subst hi';have hd0:xs.drop (i+1)=[]:=List.drop_of_length_le (by have:=HXL.o;omega);rw[hd0,List.nil_append]at hset;obtain ⟨HS1,hG1⟩:=aB (hset 0) (Lib.grownBy_setB hG.o (pre.length+i) (.int .u64 ((0:Nat):Int)));obtain⟨f1,f2,f3,f4⟩:=hI.o;rw[List.take_of_length_le (show vs.length≤i by have:=HVL.o;omega)]at f4;obtain ⟨HF,HF2⟩:=aB f4 f2;clear hset hB' hdr hB hI hd0 f2 f3 f4 hyl;generalize xs.getD i 0=x at *;go_wp2;go_end0
    exact⟨rfl,⟨ys,k,f1,HF2.o,HF.o,by rw[List.append_assoc];exact HS1.o⟩,hG1.o⟩
end Go.Proofs.YtoaeaiiabelhkaaGreatDoor
namespace Go.Gb
theorem z2u {xs ys:List Nat}(hl:xs.length=ys.length)(hx:∀ w∈xs,w<BB)(hy:∀ w∈ys,w<BB)(h:ai xs=ai ys):xs=ys:=by
 induction xs generalizing ys with
 | nil=>exact(List.length_eq_zero_iff.1 hl.symm).symm
 | cons x xs ih =>
   match ys,hl with
   | y :: ys,hl =>
     rw[ai,ai]at h;have h1:=hx x (by simp);have h2:=hy y (by simp);have e:=congrArg (· % BB) h;simp only[Nat.add_mul_mod_self_left,Nat.mod_eq_of_lt h1,Nat.mod_eq_of_lt h2]at e;subst e;have e2:BB*ai xs=BB*ai ys:=by omega
     rw[ih (by simpa using hl) (fun w hw=>hx w (by simp[hw])) (fun w hw=>hy w (by simp[hw])) (Nat.eq_of_mul_eq_mul_left bN e2)]
theorem digs_one {s:Nat}(h0:0<s)(h:s<BB):ae s=[s]:=by
 rw[bP (by omega),Nat.div_eq_of_lt h,aQ,Nat.mod_eq_of_lt h]
theorem scaled {b s n y:Nat}(hb:b≠0)(hn:(ae b).length=n)(hy:y=(ae b).getD (n-1) 0)(hs:s=BB / (y+1)) :
 1≤y∧y<BB∧1≤s∧s<BB∧(ae (b*s)).length=n∧b*s<BB^n∧500000000≤(ae (b*s)).getD (n-1) 0∧BB^(n-1)≤b:=by
 have hne:ae b≠[]:=by rw[bP hb];simp
 have hn0:0<n:=by rw[← hn];exact List.length_pos_iff.2 hne
 have hyl:y=(ae b).getLast hne:=by rw[hy,← hn,bU (by omega),List.getLast_eq_getElem]
 have hy1:1≤y:=by have:=l9 b hne;rw[← hyl]at this;omega
 have hy2:y<BB:=by rw[hy];exact aR b _ (bf (by omega))
 obtain⟨k1,k2,k3,k4⟩:=zh hy1 hy2;rw[← hs]at k1 k2 k3 k4;obtain⟨m,rfl⟩:∃ m,n=m+1:=⟨n-1,by omega⟩;rw[show m+1-1=m by omega]at *
 have eb:b=ai ((ae b).take m)+BB^m*y:=by
  conv=>lhs;rw[← az b]
  rw[← List.take_of_length_le (show(ae b).length≤m+1 by omega),aJ,List.take_take,Nat.min_eq_left (by omega),hy]
 have lb:=bW (n:=m) (xs:=(ae b).take m) (fun w hw=>aR b w (List.mem_of_mem_take hw)) (by simp;omega);have hblo:BB^m*y≤b:=by omega
 have hbhi:b<BB^m*(y+1):=by rw[Nat.mul_add,Nat.mul_one];omega
 have hlt:b*s<BB^(m+1):=by
  have h1:b*s<BB^m*(y+1)*s:=Nat.mul_lt_mul_of_pos_right hbhi (by omega);have h2:BB^m*(y+1)*s≤BB^m*BB:=by rw[Nat.mul_assoc];exact Nat.mul_le_mul_left _ k2
  rw[Nat.pow_succ];omega
 have hge:BB^m*(y*s)≤b*s:=by rw[← Nat.mul_assoc];exact Nat.mul_le_mul_right _ hblo
 have hpow:BB^m≤b:=by
  have:BB^m*1≤BB^m*y:=Nat.mul_le_mul_left _ hy1;omega
 have hl1:=bL hlt;have hbs:b≤b*s:=by have:=Nat.mul_le_mul_left b k3;omega
 have hl2:=aP hbs;have hlen:(ae (b*s)).length=m+1:=by omega
 refine⟨hy1,hy2,k3,k4,hlen,hlt,?_,hpow⟩
 have ev:b*s=ai ((ae (b*s)).take m)+BB^m*(ae (b*s)).getD m 0:=by
  conv=>lhs;rw[← az (b*s)]
  rw[← List.take_of_length_le (show(ae (b*s)).length≤m+1 by omega),aJ,List.take_take,Nat.min_eq_left (by omega),List.take_of_length_le (show(ae (b*s)).length≤m+1 by omega)]
 have lv:=bW (n:=m) (xs:=(ae (b*s)).take m) (fun w hw=>aR _ w (List.mem_of_mem_take hw)) (by simp;omega);have h3:BB^m*(y*s)<BB^m*((ae (b*s)).getD m 0+1):=by rw[Nat.mul_add,Nat.mul_one];omega
 have h4:=Nat.lt_of_mul_lt_mul_left h3;omega
theorem KI.start {a b s m n:Nat}(hm:(ae a).length=m)(hn0:0<n)(hnm:n≤m)(hb:BB^(n-1)≤b)(hs:0<s)(hsB:s<BB) :
 KI (a*s) (b*s) (m+1) (ae (a*s)++List.replicate (m+1-(ae (a*s)).length) 0) [] (m-n+1)∧(ae (a*s)).length≤m+1:=by
 have ha:a<BB^m:=by rw[← hm];exact dG a
 have hR:a*s<BB^(m+1):=by rw[Nat.pow_succ];exact Nat.mul_lt_mul_of_lt_of_le ha (Nat.le_of_lt hsB) bN
 have hl:=bL hR;generalize hus:ae (a*s)++List.replicate (m+1-(ae (a*s)).length) 0=us;have hul:us.length=m+1:=by rw[← hus];simp;omega
 have huw:ai us=a*s:=by rw[← hus,eQ,az]
 have huB:∀ w∈us,w<BB:=by
  intro w hw;rw[← hus]at hw;rcases List.mem_append.1 hw with hw|hw
  · exact aR _ w hw
  · rw[(List.mem_replicate.1 hw).2];exact bN
 refine⟨⟨hul,huB,by simp,?_,by simp[ai,huw]⟩,hl⟩;have hsp:=dw us (m-n+1) (by omega);rw[huw]at hsp
 have h1:BB^(m-n+1)*ai (us.drop (m-n+1))<BB^(m-n+1)*(b*s):=by
  have e1:BB^m*s=BB^(m-n+1)*(BB^(n-1)*s):=by rw[← Nat.mul_assoc,← Nat.pow_add,show m-n+1+(n-1)=m by omega]
  have e2:a*s<BB^m*s:=Nat.mul_lt_mul_of_pos_right ha hs;have e3:BB^(n-1)*s≤b*s:=Nat.mul_le_mul_right _ hb;have e4:BB^(m-n+1)*(BB^(n-1)*s)≤BB^(m-n+1)*(b*s):=Nat.mul_le_mul_left _ e3;omega
 exact Nat.lt_of_mul_lt_mul_left h1
theorem z4h {xs vs:List Nat}{n:Nat}(hn:0<n)(hxl:xs.length=n+1)(hvl:vs.length=n)(hv:∀ v∈vs,v<BB)(hlt:ai xs<BB*ai vs):xs.getD n 0≤vs.getD (n-1) 0:=by
 obtain⟨m,rfl⟩:∃ m,n=m+1:=⟨n-1,by omega⟩;rw[show m+1-1=m by omega];have e1:ai xs=ai (xs.take (m+1))+BB^(m+1)*xs.getD (m+1) 0:=by rw[← aJ,List.take_of_length_le (by omega)]
 have e2:ai vs=ai (vs.take m)+BB^m*vs.getD m 0:=by rw[← aJ,List.take_of_length_le (by omega)]
 have lv:=bW (n:=m) (xs:=vs.take m) (fun w hw=>hv w (List.mem_of_mem_take hw)) (by simp;omega);have h3:ai vs<BB^m*(vs.getD m 0+1):=by rw[Nat.mul_add,Nat.mul_one];omega
 have h4:BB*ai vs<BB*(BB^m*(vs.getD m 0+1)):=Nat.mul_lt_mul_of_pos_left h3 bN;have h5:BB*(BB^m*(vs.getD m 0+1))=BB^(m+1)*(vs.getD m 0+1):=by rw[← Nat.mul_assoc,Nat.pow_succ,Nat.mul_comm BB]
 have h6:BB^(m+1)*xs.getD (m+1) 0<BB^(m+1)*(vs.getD m 0+1):=by omega
 have:=Nat.lt_of_mul_lt_mul_left h6;omega
theorem iw {us:List Nat}{j n i:Nat}(h:i<n):((us.drop j).take n).getD i 0=us.getD (j+i) 0:=by
 simp[List.getD,h,List.getElem?_drop]
theorem pV (us:List Nat)(j n:Nat):us=us.take j++((us.drop j).take n++us.drop (j+n)):=by
 conv=>lhs;rw[← List.take_append_drop j us,← List.take_append_drop n (us.drop j),List.drop_drop]
theorem lS {us:List Nat}(hB:∀ w∈us,w<BB){i:Nat}(h:i<(ae (ai us)).length):(ae (ai us)).getD i 0=us.getD i 0∧i<us.length:=by
 have hlen:(ae (ai us)).length≤us.length:=bL (dS us hB);refine⟨?_,by omega⟩;have e:ai us=ai (ae (ai us)++List.replicate (us.length-(ae (ai us)).length) 0):=by rw[eQ,az]
 have h1:us=ae (ai us)++List.replicate (us.length-(ae (ai us)).length) 0:=by
  refine z2u (by simp;omega) hB ?_ e;intro w hw;rcases List.mem_append.1 hw with hw|hw
  · exact aR _ w hw
  · rw[(List.mem_replicate.1 hw).2];exact bN
 conv=>rhs;rw[h1]
 simp[List.getD,List.getElem?_append_left h]
end Go.Gb
namespace Go.Proofs.YtoaeaiiabelhkaaGreatDoor
open Go.RowKit Go.Gb
theorem tq {D:List Nat}{L:Nat}:splice (cls .u64 (List.replicate L 0)) 0 (cls .u64 D)=cls .u64 (D++List.replicate (L-D.length) 0):=by
 unfold splice
 rw[cB,eD];simp[cls]
