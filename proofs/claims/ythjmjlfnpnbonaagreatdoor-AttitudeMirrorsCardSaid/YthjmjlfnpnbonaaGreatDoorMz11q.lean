/- Texts of this proof, one behind the other. -/
import Derived.Test.YthjmjlfnpnbonaaGreatDoorMz10q
set_option maxRecDepth 100000
set_option maxHeartbeats 20000000
open Go.Lib (hid)
namespace Go.Gb
def SubI (xs vs:List Nat) (t:Nat) (ys:List Nat) (i c:Nat):Prop:=ys.length=i∧(∀ y∈ys,y<BB)∧c≤BB∧wval (xs.take i)+BB^i*c=wval ys+t*wval (vs.take i)
theorem SubI.start (xs vs:List Nat)(t:Nat):SubI xs vs t [] 0 0:=⟨rfl,by simp,Nat.zero_le _,by simp[wval]⟩
theorem sub_lin {A Bi c W T x c' y tv:Nat}(h:A+Bi*c=W+T)(hx:x+BB*c'=y+(tv+c)):A+Bi*x+Bi*BB*c'=W+Bi*y+(T+Bi*tv):=by
 have:=congrArg (Bi * ·) hx
 simp only[Nat.mul_add]at this
 rw[Nat.mul_assoc]
 omega
theorem all_snoc {ys:List Nat}{y:Nat}(h:∀ y∈ys,y<BB)(hy:y<BB):∀ w∈ys++[y],w<BB:=by
 intro w hw
 rcases List.mem_append.1 hw with hw|hw
 · exact h w hw
 · rw[List.mem_singleton.1 hw];exact hy
theorem SubI.next {xs vs ys:List Nat}{t i c y c':Nat}(h:SubI xs vs t ys i c)(hc:c'≤BB)(hy:y<BB)(he:xs.getD i 0+BB*c'=y+(t*vs.getD i 0+c)):SubI xs vs t (ys++[y]) (i+1) c':=by
 obtain⟨h1,h2,h3,h4⟩:=h
 refine⟨by simp[h1],all_snoc h2 hy,hc,?_⟩
 have:=sub_lin h4 he
 rw[take_succ_any,take_succ_any,wval_snoc,h1,Nat.pow_succ,Nat.mul_add t]
 rw[show t*(BB^i*vs.getD i 0)=BB^i*(t*vs.getD i 0) by rw[Nat.mul_left_comm]]
 omega
theorem SubI.last {xs vs ys:List Nat}{t n c y k:Nat}(h:SubI xs vs t ys n c)(hv:vs.length=n)(hx:xs.length=n+1)(hy:y<BB)(he:xs.getD n 0+BB*k=y+c) :
 (ys++[y]).length=n+1∧(∀ w∈ys++[y],w<BB)∧wval xs+BB^(n+1)*k=wval (ys++[y])+t*wval vs:=by
 obtain⟨h1,h2,h3,h4⟩:=h
 refine⟨by simp[h1],all_snoc h2 hy,?_⟩
 have e1:wval xs=wval (xs.take n)+BB^n*xs.getD n 0:=by rw[← take_succ_any,List.take_of_length_le (by omega)]
 rw[List.take_of_length_le (show vs.length≤n by omega)]at h4
 have:=sub_lin (tv:=0) (x:=xs.getD n 0) (c':=k) (y:=y) h4 (by omega)
 rw[e1,wval_snoc,h1,Nat.pow_succ]
 omega
theorem sub_carry {t v c:Nat}(ht:t<BB)(hv:v<BB)(hc:c≤BB):t*v≤999999998000000001∧(t*v+c) / BB≤999999999:=by
 have h:=word_mul ht hv
 have:=BB_eq
 refine⟨h,?_⟩
 rw[BB_eq]at *
 omega
theorem SumInv.step {x y os:List Nat}{i c:Nat}(h:SumInv x y os i c)(hx:x.getD i 0<BB)(hy:y.getD i 0<BB):SumInv x y (os++[(x.getD i 0+y.getD i 0+c)%BB]) (i+1) ((x.getD i 0+y.getD i 0+c) / BB):=by
 have hc:=h.2.2.1
 by_cases hs:x.getD i 0+y.getD i 0+c<BB
 · rw[Nat.mod_eq_of_lt hs,Nat.div_eq_of_lt hs];exact h.small hs
 · have e1:(x.getD i 0+y.getD i 0+c) / BB=1:=by rw[BB_eq]at *;omega
   have e2:(x.getD i 0+y.getD i 0+c)%BB=x.getD i 0+y.getD i 0+c-BB:=by rw[BB_eq]at *;omega
   rw[e1,e2]
   exact h.big hx hy (by omega)
end Go.Gb
namespace Go.Proofs.YthjmjlfnpnbonaaGreatDoor
open Go.RowKit Go.Gb
theorem set_mid' (pre ys r:List Nat)(x v:Nat):(pre++(ys++(x :: r))).set (pre.length+ys.length) v=pre++(ys++(v :: r)):=by simp
theorem grown_cell {w w':World}{g b i:Nat}(h:w.grownBy w' (some g))(hb:b<w.heap.size)(hne:b≠g):w'.cell? ⟨b,i,none⟩=w.cell? ⟨b,i,none⟩ :=
 World.cell?_of_block (w:=w) (h.block b hb (fun e=>by cases e;exact hne rfl))
theorem subT_any (g c b2 o2 c2 n t:Nat)(pre xs post vs:List Nat)(hxl:xs.length=n+1)(hvl:vs.length=n)(hn:n≤100000)(ht:t<BB)(hx:∀ x∈xs,x<BB)(hv:∀ v∈vs,v<BB)(w:World)
 (hb:Blk w g (pre++(xs++post))) (hb2:b2<w.heap.size) (hne:b2≠g) (hcv:∀ i,i<n→w.cell? ⟨b2,o2+i,none⟩=some (.int .u64 ((vs.getD i 0:Nat):Int))) :
 Calls Tryz.prog 245 #[.slice (some ⟨g,pre.length,none⟩) (n+1) c,.slice (some ⟨b2,o2,none⟩) n c2,.int .u64 (t:Int)] w fun e w' =>
  ∃ (ys:List Nat) (k:Nat),e=.returned (.bool (decide (k=1)))∧k≤1∧ys.length=n+1∧(∀ y∈ys,y<BB)∧wval xs+BB^(n+1)*k=wval ys+t*wval vs∧Blk w' g (pre++(ys++post))∧w.grownBy w' (some g):=by
 have HX:=hid hx
 have HV:=hid hv
 have HB:=hid hb
 have HCV:=hid hcv
 have HT:=hid ht
 have HXL:=hid hxl
 have HVL:=hid hvl
 clear hx hv hb hcv ht hxl hvl
 go_enter Tryz.func245,Tryz.ntmps245
 go_wp2
 go_loopw [7,8,9,10,11,16] (fun cc _ _ _ _ ii wr=>∃ (i k:Nat) (ys:List Nat),i≤n∧ii=.int .i64 i∧cc=.int .u64 (k:Int)∧Hid (SubI xs vs t ys i k)∧Hid (Blk wr g (pre++(ys++(xs.drop i++post))))∧Hid (w.grownBy wr (some g))) (fun _ _ _ _ _ ii _=>n-(intOf ii).toNat)
 case atStart=>exact⟨0,0,[],Nat.zero_le _,rfl,rfl,SubI.start xs vs t,HB,World.grownBy.refl _ _⟩
 case round =>
  obtain⟨i,k,ys,hi,rfl,rfl,hI,hB,hG⟩:=hrel
  have hdr:=drop_consD (xs:=xs) (i:=i) (by have:=HXL.out;omega)
  have hxw:=HX.out _ (mem_getD (xs:=xs) (i:=i) (by have:=HXL.out;omega))
  have hB':=hB.out
  rw[hdr,List.cons_append]at hB'
  have hyl:ys.length=i:=hI.out.1
  have hcell:=hB'.cell (i:=pre.length+ys.length) (by simp)
  have hfree:=hB'.free (pre.length+ys.length)
  rw[get_mid]at hcell
  rw[hyl]at hcell hfree
  have hk:k≤1000000000:=by have:=hI.out.2.2.1;have:=BB_eq;omega
  have hk2:(k:Int)≤1000000000:=by omega
  by_cases hlt:i<n
  · have hcv:=(grown_cell hG.out hb2 hne).trans (HCV.out i hlt)
    have hvw:=HV.out _ (mem_getD (xs:=vs) (i:=i) (by have:=HVL.out;omega))
    have hpc:=sub_carry HT.out hvw hI.out.2.2.1
    have hset:∀ (wr':World) (y0:Nat),Blk wr' g (pre++(ys++(y0 :: (xs.drop (i+1)++post))))→∀ z:Nat,Blk (wr'.setCell ⟨g,pre.length+i,none⟩ (.int .u64 (z:Int))) g (pre++(ys++(z :: (xs.drop (i+1)++post)))):=by
        intro wr' y0 h z
        have:=h.set (pre.length+ys.length) z
        rwa [set_mid',hyl]at this
    have hnx:=fun(c' y:Nat) (h1:c'≤BB) (h2:y<BB) h3=>hI.out.next (y:=y) (c':=c') h1 h2 h3
    have HNX:=hid hnx
    have HSET:=hid hset
    have HB':=hid hB'
    clear hnx hset hB' hdr hyl hB
    generalize xs.getD i 0=x at *
    generalize vs.getD i 0=v at *
    obtain⟨p,hp⟩:∃ p:Nat,p=t*v:=⟨_,rfl⟩
    have e1:(t:Int)*(v:Int)=(p:Int):=by rw[hp];exact(Int.natCast_mul _ _).symm
    rw[← hp]at hpc HNX
    have w1:IntKind.u64.wrap (p:Int)=(p:Int):=IntWalk.u64_in _ (by omega)
    obtain⟨q,hq⟩:∃ q:Nat,q=(p+k) / BB:=⟨_,rfl⟩
    obtain⟨lo,hlo⟩:∃ lo:Nat,lo=(p+k)%BB:=⟨_,rfl⟩
    rw[← hq]at hpc
    have hmod:((p:Int)+(k:Int))%1000000000=(lo:Int):=by rw[hlo,BB_eq];omega
    have hdiv:((p:Int)+(k:Int)) / 1000000000=(q:Int):=by rw[hq,BB_eq];omega
    have hpk:p+k=BB*q+lo:=by rw[hq,hlo];exact(Nat.div_add_mod _ _).symm
    have hlo2:(lo:Int)≤999999999:=by rw[BB_eq]at hlo;omega
    have hx2:(x:Int)≤999999999:=by rw[BB_eq]at hxw;omega
    have hp2:(p:Int)≤999999998000000001:=by omega
    have hq2:(q:Int)≤999999999:=by omega
    have HPK:=hid hpk
    have i1:(i:Int)<(n:Int):=by omega
    have i3:(n:Int)≤100000:=by omega
    clear hp hq hlo hpk hpc hvw hxw hk
    by_cases hb:(x:Int)<(lo:Int)
    · have HN1:=hid (HNX.out (q+1) (x+BB-lo) (by rw[BB_eq];omega) (by rw[BB_eq];omega) (by rw[HPK.out,Nat.mul_add];rw[BB_eq];omega))
      have HS1:=hid (HSET.out _ _ (HSET.out _ _ HB'.out (x+1000000000)) (x+BB-lo))
      have hG1:=hid (Lib.grownBy_setB (Lib.grownBy_setB hG.out (pre.length+i) (.int .u64 ((x+1000000000:Nat):Int))) (pre.length+i) (.int .u64 ((x+BB-lo:Nat):Int)))
      have hval:((x:Int)+1000000000-(lo:Int))=((x+BB-lo:Nat):Int):=by rw[BB_eq];omega
      have hval2:((x+1000000000:Nat):Int)=(x:Int)+1000000000:=by omega
      rw[← hval,hval2]at HS1 hG1
      clear HNX HSET HB' hval hval2
      go_wp2
      go_roundw
      case rel=>exact⟨i+1,q+1,ys++[x+BB-lo],by omega,by go_num,val_int1 (by omega),HN1,by rw[List.append_assoc];exact HS1,hG1⟩
      case measure=>simp[intOf];omega
    · have hb':decide ((x:Int)<(lo:Int))=false:=decide_eq_false hb
      have HN1:=hid (HNX.out q (x-lo) (by rw[BB_eq];omega) (by rw[BB_eq];omega) (by rw[HPK.out];omega))
      have HS1:=hid (HSET.out _ _ HB'.out (x-lo))
      have hG1:=hid (Lib.grownBy_setB hG.out (pre.length+i) (.int .u64 ((x-lo:Nat):Int)))
      have hval:((x:Int)-(lo:Int))=((x-lo:Nat):Int):=by omega
      rw[← hval]at HS1 hG1
      clear HNX HSET HB' hval
      go_wp2
      go_roundw
      case rel=>exact⟨i+1,q,ys++[x-lo],by omega,by go_num,val_int1 (by omega),HN1,by rw[List.append_assoc];exact HS1,hG1⟩
      case measure=>simp[intOf];omega
  · have hi':i=n:=by omega
    subst hi'
    have hd0:xs.drop (i+1)=[]:=List.drop_of_length_le (by have:=HXL.out;omega)
    rw[hd0,List.nil_append]at hB'
    have hlast:=fun(kk y:Nat) (h2:y<BB) h3=>hI.out.last (y:=y) (k:=kk) HVL.out HXL.out h2 h3
    have hset:∀ (wr':World) (y0:Nat),Blk wr' g (pre++(ys++(y0 :: post)))→∀ z:Nat,Blk (wr'.setCell ⟨g,pre.length+i,none⟩ (.int .u64 (z:Int))) g (pre++(ys++(z :: post))):=by
        intro wr' y0 h z
        have:=h.set (pre.length+ys.length) z
        rwa [set_mid',hyl]at this
    have HL:=hid hlast
    have HSET:=hid hset
    have HB':=hid hB'
    clear hlast hset hB' hdr hyl hB hI hd0
    generalize xs.getD i 0=x at *
    have hx2:(x:Int)≤999999999:=by rw[BB_eq]at hxw;omega
    clear hxw
    by_cases hb:(x:Int)<(k:Int)
    · have HF:=hid (HL.out 1 (x+BB-k) (by rw[BB_eq];omega) (by rw[BB_eq];omega))
      have HS1:=hid (HSET.out _ _ (HSET.out _ _ HB'.out (x+1000000000)) (x+BB-k))
      have hG1:=hid (Lib.grownBy_setB (Lib.grownBy_setB hG.out (pre.length+i) (.int .u64 ((x+1000000000:Nat):Int))) (pre.length+i) (.int .u64 ((x+BB-k:Nat):Int)))
      have hval:((x:Int)+1000000000-(k:Int))=((x+BB-k:Nat):Int):=by rw[BB_eq];omega
      have hval2:((x+1000000000:Nat):Int)=(x:Int)+1000000000:=by omega
      rw[← hval,hval2]at HS1 hG1
      clear HL HSET HB' hval hval2
      go_wp2
      go_ret
      obtain⟨f1,f2,f3⟩:=HF.out
      exact⟨ys++[x+BB-k],1,rfl,by omega,f1,f2,f3,by rw[List.append_assoc];exact HS1.out,hG1.out⟩
    · have hb':decide ((x:Int)<(k:Int))=false:=decide_eq_false hb
      have HF:=hid (HL.out 0 (x-k) (by rw[BB_eq];omega) (by omega))
      have HS1:=hid (HSET.out _ _ HB'.out (x-k))
      have hG1:=hid (Lib.grownBy_setB hG.out (pre.length+i) (.int .u64 ((x-k:Nat):Int)))
      have hval:((x:Int)-(k:Int))=((x-k:Nat):Int):=by omega
      rw[← hval]at HS1 hG1
      clear HL HSET HB' hval
      go_wp2
      go_ret
      obtain⟨f1,f2,f3⟩:=HF.out
      exact⟨ys++[x-k],0,rfl,by omega,f1,f2,f3,by rw[List.append_assoc];exact HS1.out,hG1.out⟩
end Go.Proofs.YthjmjlfnpnbonaaGreatDoor
set_option maxRecDepth 100000
set_option maxHeartbeats 20000000
open Go.Lib (hid)
namespace Go.Gb
theorem scale_half {y:Nat}(h1:1≤y)(h2:y<BB):500000000≤y*(BB / (y+1))∧(y+1)*(BB / (y+1))≤BB∧1≤BB / (y+1)∧BB / (y+1)<BB:=by
 have hs:(y+1)*(BB / (y+1))≤BB:=Nat.mul_div_le _ _
 have hs2:BB<(y+1)*(BB / (y+1))+(y+1):=by
  have:=Nat.div_add_mod BB (y+1)
  have:=Nat.mod_lt BB (show 0<y+1 by omega)
  omega
 have h3:1≤BB / (y+1):=(Nat.le_div_iff_mul_le (by omega)).2 (by omega)
 refine⟨?_,hs,h3,Nat.div_lt_self BB_pos (by omega)⟩
 generalize BB / (y+1)=s at *
 rw[BB_eq]at *
 rw[Nat.add_mul,Nat.one_mul]at hs hs2
 rcases Nat.lt_or_ge 1 s with hs3|hs3
 · rcases Nat.lt_or_ge 1 y with hy|hy
   · have:(y-2)*1≤(y-2)*(s-1):=Nat.mul_le_mul_left _ (by omega)
     obtain⟨y',rfl⟩:∃ y',y=y'+2:=⟨y-2,by omega⟩
     obtain⟨s',rfl⟩:∃ s',s=s'+2:=⟨s-2,by omega⟩
     have e1:(y'+2)*(s'+2)=y'*s'+2*y'+2*s'+4:=by rw[Nat.add_mul,Nat.mul_add,Nat.mul_add];omega
     omega
   · obtain rfl:y=1:=by omega
     omega
 · obtain rfl:s=1:=by omega
   omega
theorem guess_two {xs vs:List Nat}{n g:Nat}(hn:2≤n)(hxl:xs.length=n+1)(hvl:vs.length=n)(hx:∀ x∈xs,x<BB)(hv:∀ v∈vs,v<BB)(hlt:wval xs<BB*wval vs)(hv1:0<vs.getD (n-1) 0)
 (hg:GOK (xs.getD n 0) (xs.getD (n-1) 0) (xs.getD (n-2) 0) (vs.getD (n-1) 0) (vs.getD (n-2) 0) g):wval xs / wval vs≤g∧g≤wval xs / wval vs+1:=by
 obtain⟨m,rfl⟩:∃ m,n=m+2:=⟨n-2,by omega⟩
 rw[show m+2-1=m+1 by omega,show m+2-2=m by omega]at *
 have hxt:∀ w∈xs.take m,w<BB:=fun w hw=>hx w (List.mem_of_mem_take hw)
 have hvt:∀ w∈vs.take m,w<BB:=fun w hw=>hv w (List.mem_of_mem_take hw)
 have lx:=wval_le_of_len (n:=m) hxt (by simp;omega)
 have lv:=wval_le_of_len (n:=m) hvt (by simp;omega)
 have ex:wval xs=wval (xs.take m)+((xs.getD (m+2) 0*BB+xs.getD (m+1) 0)*BB+xs.getD m 0)*BB^m:=by
  have h1:wval xs=wval (xs.take (m+2+1)):=by rw[List.take_of_length_le (by omega)]
  rw[h1,take_succ_any,take_succ_any,take_succ_any]
  simp only[Nat.pow_succ]
  generalize xs.getD (m+2) 0=a
  generalize xs.getD (m+1) 0=b
  generalize xs.getD m 0=c
  generalize BB^m=P
  rw[Nat.add_mul,Nat.add_mul,Nat.add_mul]
  rw[show a*BB*BB*P=P*BB*BB*a by rw[Nat.mul_comm,Nat.mul_comm a BB,Nat.mul_comm _ BB,← Nat.mul_assoc,← Nat.mul_assoc]]
  rw[show b*BB*P=P*BB*b by rw[Nat.mul_comm,Nat.mul_comm b BB,← Nat.mul_assoc]]
  rw[Nat.mul_comm c P]
  omega
 have ev:wval vs=wval (vs.take m)+(vs.getD (m+1) 0*BB+vs.getD m 0)*BB^m:=by
  have h1:wval vs=wval (vs.take (m+1+1)):=by rw[List.take_of_length_le (by omega)]
  rw[h1,take_succ_any,take_succ_any]
  simp only[Nat.pow_succ]
  generalize vs.getD (m+1) 0=b
  generalize vs.getD m 0=c
  generalize BB^m=P
  rw[Nat.add_mul]
  rw[show b*BB*P=P*BB*b by rw[Nat.mul_comm,Nat.mul_comm b BB,← Nat.mul_assoc]]
  rw[Nat.mul_comm c P]
  omega
 obtain⟨g1,g2,g3⟩:=hg
 generalize (xs.getD (m+2) 0*BB+xs.getD (m+1) 0)*BB+xs.getD m 0=T3 at *
 have hV2:BB≤vs.getD (m+1) 0*BB+vs.getD m 0:=by
  have:1*BB≤vs.getD (m+1) 0*BB:=Nat.mul_le_mul_right _ hv1
  omega
 generalize vs.getD (m+1) 0*BB+vs.getD m 0=V2 at *
 have hP:0<BB^m:=Nat.pow_pos BB_pos
 have hV0:0<V2:=Nat.lt_of_lt_of_le BB_pos hV2
 have hVlo:V2*BB^m≤wval vs:=by omega
 have hVhi:wval vs<(V2+1)*BB^m:=by rw[Nat.add_mul,Nat.one_mul];omega
 have hUlo:T3*BB^m≤wval xs:=by omega
 have hUhi:wval xs<(T3+1)*BB^m:=by rw[Nat.add_mul,Nat.one_mul];omega
 have hVpos:0<wval vs:=Nat.lt_of_lt_of_le (Nat.mul_pos hV0 hP) hVlo
 refine⟨g3 _ ?_ ?_,guess_right hP hVlo hVhi hUlo g2 (by omega)⟩
 · rw[Nat.div_lt_iff_lt_mul hVpos];exact hlt
 · have:=quo_le hV0 hVlo hUhi
   rw[Nat.le_div_iff_mul_le hV0]at this
   exact this
theorem step_right {X Y V g k P:Nat}(hV:0<V)(hg:X / V≤g)(he:X+P*k=Y+g*V)(h0:k=0):g=X / V∧Y=X%V:=by
 subst h0
 have h1:g*V≤X:=by omega
 have h2:g≤X / V:=(Nat.le_div_iff_mul_le hV).2 h1
 have h3:g=X / V:=by omega
 have:=Nat.div_add_mod X V
 have e:g*V=V*(X / V):=by rw[h3,Nat.mul_comm]
 exact⟨h3,by omega⟩
theorem step_wrong {X Y V g P:Nat}(hV:0<V)(hg:X / V≤g)(hg2:g≤X / V+1)(hY:Y<P)(he:X+P*1=Y+g*V):g-1=X / V∧1≤g∧Y+V=X%V+P:=by
 have h1:X<g*V:=by omega
 have h2:X / V<g:=by rw[Nat.div_lt_iff_lt_mul hV];exact h1
 have h3:g=X / V+1:=by omega
 have:=Nat.div_add_mod X V
 have e:g*V=V*(X / V)+V:=by rw[h3,Nat.add_mul,Nat.one_mul,Nat.mul_comm]
 generalize g*V=gv at *
 generalize V*(X / V)=p at *
 generalize X / V=q at *
 generalize X%V=r at *
 exact⟨by omega,by omega,by omega⟩
theorem back_rest {Yt Z V r P t c:Nat}(hZ:Z<P)(hr:r<P)(hs:Yt+V=Z+P*c)(hY:Yt+P*t+V=r+P*BB):Z=r:=by
 have h:Z+P*(c+t)=r+P*BB:=by rw[Nat.mul_add];omega
 have h1:=congrArg (· % P) h
 simp only[Nat.add_mul_mod_self_left,Nat.mod_eq_of_lt hZ,Nat.mod_eq_of_lt hr]at h1
 exact h1
def KI (R V:Nat) (L:Nat) (us os:List Nat) (j:Nat):Prop:=us.length=L∧(∀ w∈us,w<BB)∧(∀ w∈os,w<BB)∧wval (us.drop j)<V∧R=wval us+BB^j*(wval os*V)
theorem KI.high {R V L n j:Nat}{us os:List Nat}(h:KI R V L us os (j+1))(hV:V<BB^n)(hjl:j+n<L):wval (us.drop (j+n+1))=0∧wval ((us.drop j).take (n+1))=wval (us.drop j)∧wval ((us.drop j).take (n+1))<BB*V:=by
 obtain⟨h1,h2,h3,h4,h5⟩:=h
 have e1:=wval_split (us.drop (j+1)) n (by simp;omega)
 rw[List.drop_drop,show j+1+n=j+n+1 by omega]at e1
 have hz:wval (us.drop (j+n+1))=0:=by
  rcases Nat.eq_zero_or_pos (wval (us.drop (j+n+1))) with h|h
  · exact h
  · have:BB^n*1≤BB^n*wval (us.drop (j+n+1)):=Nat.mul_le_mul_left _ h
    omega
 have e2:=wval_split (us.drop j) (n+1) (by simp;omega)
 rw[List.drop_drop,show j+(n+1)=j+n+1 by omega,hz,Nat.mul_zero,Nat.add_zero]at e2
 refine⟨hz,e2.symm,?_⟩
 rw[← e2,wval_drop (by omega)]
 have hw:=h2 _ (mem_getD (xs:=us) (i:=j) (by omega))
 have:BB*(wval (us.drop (j+1))+1)≤BB*V:=Nat.mul_le_mul_left _ h4
 rw[Nat.mul_add,Nat.mul_one]at this
 omega
theorem KI.step {R V L n j q:Nat}{us os zs:List Nat}(h:KI R V L us os (j+1))(hV0:0<V)(hV:V<BB^n)(hjl:j+n<L)(hzl:zs.length=n+1)(hz:∀ z∈zs,z<BB)
 (hzv:wval zs=wval ((us.drop j).take (n+1))%V) (hq:q=wval ((us.drop j).take (n+1)) / V):KI R V L (us.take j++(zs++us.drop (j+n+1))) (q :: os) j:=by
 obtain⟨g1,g2,g3⟩:=h.high hV hjl
 obtain⟨h1,h2,h3,h4,h5⟩:=h
 have hlen:(us.take j).length=j:=by simp;omega
 have e0:(us.take j++(zs++us.drop (j+n+1))).drop j=zs++us.drop (j+n+1):=by
  rw[List.drop_append,List.drop_of_length_le (by omega),hlen,Nat.sub_self,List.drop_zero,List.nil_append]
 have e1:wval (zs++us.drop (j+n+1))=wval zs:=by rw[wval_append,g1,Nat.mul_zero,Nat.add_zero]
 have hqB:q<BB:=by rw[hq,Nat.div_lt_iff_lt_mul hV0];exact g3
 refine⟨by simp[hzl];omega,?_,?_,?_,?_⟩
 · intro w hw
   rcases List.mem_append.1 hw with hw|hw
   · exact h2 w (List.mem_of_mem_take hw)
   · rcases List.mem_append.1 hw with hw|hw
     · exact hz w hw
     · exact h2 w (List.mem_of_mem_drop hw)
 · intro w hw
   rcases List.mem_cons.1 hw with hw|hw
   · rw[hw];exact hqB
   · exact h3 w hw
 · rw[e0,e1,hzv];exact Nat.mod_lt _ hV0
 · rw[wval_append,e1,hlen,wval]
   have e2:=wval_split us j (by omega)
   have e3:=Nat.div_add_mod (wval (us.drop j)) V
   rw[g2]at hzv hq
   rw[← hzv,← hq]at e3
   rw[h5,e2,← e3,Nat.pow_succ]
   generalize wval (us.take j)=A
   generalize wval zs=Z
   generalize wval os=W
   generalize BB^j=P
   rw[Nat.mul_add P,Nat.add_mul q,Nat.mul_add P,Nat.mul_comm V q]
   rw[show P*BB*(W*V)=P*(BB*W*V) by rw[Nat.mul_assoc P,Nat.mul_assoc BB]]
   omega
theorem KI.done {R V L:Nat}{us os:List Nat}(h:KI R V L us os 0):wval us=R%V∧wval os=R / V:=by
 obtain⟨h1,h2,h3,h4,h5⟩:=h
 rw[List.drop_zero]at h4
 rw[Nat.pow_zero,Nat.one_mul]at h5
 rw[h5,Nat.add_mul_mod_self_right,Nat.mod_eq_of_lt h4,Nat.add_mul_div_right _ _ (by omega),Nat.div_eq_of_lt h4,Nat.zero_add]
 exact⟨rfl,rfl⟩
end Go.Gb
namespace Go.Proofs.YthjmjlfnpnbonaaGreatDoor
open Go.RowKit Go.Gb
theorem addBack_any (g c b2 o2 c2 n:Nat)(pre xs post vs:List Nat)(hxl:xs.length=n+1)(hvl:vs.length=n)(hn:n≤100000)(hx:∀ x∈xs,x<BB)(hv:∀ v∈vs,v<BB)(w:World)
 (hb:Blk w g (pre++(xs++post))) (hb2:b2<w.heap.size) (hne:b2≠g) (hcv:∀ i,i<n→w.cell? ⟨b2,o2+i,none⟩=some (.int .u64 ((vs.getD i 0:Nat):Int))) :
 Calls Tryz.prog 246 #[.slice (some ⟨g,pre.length,none⟩) (n+1) c,.slice (some ⟨b2,o2,none⟩) n c2] w fun e w' =>
  e=.returned (.tuple #[])∧(∃ (ys:List Nat) (k:Nat),ys.length=n∧(∀ y∈ys,y<BB)∧wval ys+BB^n*k=wval (xs.take n)+wval vs∧Blk w' g (pre++((ys++[0])++post)))∧w.grownBy w' (some g):=by
 have HX:=hid hx
 have HV:=hid hv
 have HB:=hid hb
 have HCV:=hid hcv
 have HXL:=hid hxl
 have HVL:=hid hvl
 clear hx hv hb hcv hxl hvl
 go_enter Tryz.func246,Tryz.ntmps246
 go_wp2
 go_loopw [4,5,6,7,10] (fun cc _ _ _ ii wr=>∃ (i k:Nat) (ys:List Nat),i≤n∧ii=.int .i64 i∧cc=.int .u64 (k:Int)∧Hid (SumInv xs vs ys i k)∧Hid (Blk wr g (pre++(ys++(xs.drop i++post))))∧Hid (w.grownBy wr (some g))) (fun _ _ _ _ ii _=>n-(intOf ii).toNat)
 case atStart=>exact⟨0,0,[],Nat.zero_le _,rfl,rfl,SumInv.start xs vs,HB,World.grownBy.refl _ _⟩
 case round =>
  obtain⟨i,k,ys,hi,rfl,rfl,hI,hB,hG⟩:=hrel
  have hdr:=drop_consD (xs:=xs) (i:=i) (by have:=HXL.out;omega)
  have hxw:=HX.out _ (mem_getD (xs:=xs) (i:=i) (by have:=HXL.out;omega))
  have hB':=hB.out
  rw[hdr,List.cons_append]at hB'
  have hyl:ys.length=i:=hI.out.1
  have hcell:=hB'.cell (i:=pre.length+ys.length) (by simp)
  have hfree:=hB'.free (pre.length+ys.length)
  have hset:=fun z:Nat=>hB'.set (pre.length+ys.length) z
  rw[get_mid]at hcell
  simp only[set_mid']at hset
  rw[hyl]at hcell hfree hset
  have hk:k≤1:=hI.out.2.2.1
  have hk2:(k:Int)≤1:=by omega
  by_cases hlt:i<n
  · have hcv:=(grown_cell hG.out hb2 hne).trans (HCV.out i hlt)
    have hvw:=HV.out _ (mem_getD (xs:=vs) (i:=i) (by have:=HVL.out;omega))
    have hnx:=hI.out.step hxw hvw
    have HN1:=hid hnx
    have HS1:=hid (hset ((xs.getD i 0+vs.getD i 0+k)%BB))
    have hG1:=hid (Lib.grownBy_setB hG.out (pre.length+i) (.int .u64 (((xs.getD i 0+vs.getD i 0+k)%BB:Nat):Int)))
    clear hnx hset hB' hdr hyl hB
    generalize xs.getD i 0=x at *
    generalize vs.getD i 0=v at *
    have hmod:((x:Int)+(v:Int)+(k:Int))%1000000000=(((x+v+k)%BB:Nat):Int):=by rw[BB_eq];omega
    have hdiv:((x:Int)+(v:Int)+(k:Int)) / 1000000000=(((x+v+k) / BB:Nat):Int):=by rw[BB_eq];omega
    have hx2:(x:Int)≤999999999:=by rw[BB_eq]at hxw;omega
    have hv2:(v:Int)≤999999999:=by rw[BB_eq]at hvw;omega
    have i1:(i:Int)<(n:Int):=by omega
    rw[← hmod]at HS1 hG1
    have HDv:=hid hdiv
    clear hmod hdiv hvw hxw hk
    go_wp2
    go_roundw
    case rel=>exact⟨i+1,(x+v+k) / BB,ys++[(x+v+k)%BB],by omega,by go_num,by rw[HDv.out],HN1,by rw[List.append_assoc];exact HS1,hG1⟩
    case measure=>simp[intOf];omega
  · have hi':i=n:=by omega
    subst hi'
    have hd0:xs.drop (i+1)=[]:=List.drop_of_length_le (by have:=HXL.out;omega)
    rw[hd0,List.nil_append]at hset
    have HS1:=hid (hset 0)
    have hG1:=hid (Lib.grownBy_setB hG.out (pre.length+i) (.int .u64 ((0:Nat):Int)))
    obtain⟨f1,f2,f3,f4⟩:=hI.out
    rw[List.take_of_length_le (show vs.length≤i by have:=HVL.out;omega)]at f4
    have HF:=hid f4
    have HF2:=hid f2
    clear hset hB' hdr hB hI hd0 f2 f3 f4 hyl
    generalize xs.getD i 0=x at *
    go_wp2
    go_end0
    exact⟨rfl,⟨ys,k,f1,HF2.out,HF.out,by rw[List.append_assoc];exact HS1.out⟩,hG1.out⟩
end Go.Proofs.YthjmjlfnpnbonaaGreatDoor
