/- Texts of this proof, one behind the other. -/
import Derived.Test.YtcihodmmaclihaaGreatDoorMz16q
import Derived.Laws.CopyOwn
set_option maxRecDepth 100000
set_option maxHeartbeats 20000000
open Go.Lib (hid)
namespace Go.Gb
theorem scale_half {y:Nat}(h1:1≤y)(h2:y<BB):500000000≤y*(BB / (y+1))∧(y+1)*(BB / (y+1))≤BB∧1≤BB / (y+1)∧BB / (y+1)<BB:=by
 have hs:(y+1)*(BB / (y+1))≤BB:=Nat.mul_div_le _ _
 have hs2:BB<(y+1)*(BB / (y+1))+(y+1):=by
  have:=Nat.div_add_mod BB (y+1)
  have:=Nat.mod_lt BB (show 0<y+1 by omega)
  omega
 have h3:1≤BB / (y+1):=(Nat.le_div_iff_mul_le (by omega)).2 (by omega)
 refine⟨?_,hs,h3,Nat.div_lt_self BB_pos (by omega)⟩
 generalize BB / (y+1)=s at *
 rw[BB_eq]at *
 rw[Nat.add_mul,Nat.one_mul]at hs hs2
 rcases Nat.lt_or_ge 1 s with hs3|hs3
 · rcases Nat.lt_or_ge 1 y with hy|hy
   · have:(y-2)*1≤(y-2)*(s-1):=Nat.mul_le_mul_left _ (by omega)
     obtain⟨y',rfl⟩:∃ y',y=y'+2:=⟨y-2,by omega⟩
     obtain⟨s',rfl⟩:∃ s',s=s'+2:=⟨s-2,by omega⟩
     have e1:(y'+2)*(s'+2)=y'*s'+2*y'+2*s'+4:=by rw[Nat.add_mul,Nat.mul_add,Nat.mul_add];omega
     omega
   · obtain rfl:y=1:=by omega
     omega
 · obtain rfl:s=1:=by omega
   omega
theorem guess_two {xs vs:List Nat}{n g:Nat}(hn:2≤n)(hxl:xs.length=n+1)(hvl:vs.length=n)(hx:∀ x∈xs,x<BB)(hv:∀ v∈vs,v<BB)(hlt:wval xs<BB*wval vs)(hv1:0<vs.getD (n-1) 0)
 (hg:GOK (xs.getD n 0) (xs.getD (n-1) 0) (xs.getD (n-2) 0) (vs.getD (n-1) 0) (vs.getD (n-2) 0) g):wval xs / wval vs≤g∧g≤wval xs / wval vs+1:=by
 obtain⟨m,rfl⟩:∃ m,n=m+2:=⟨n-2,by omega⟩
 rw[show m+2-1=m+1 by omega,show m+2-2=m by omega]at *
 have hxt:∀ w∈xs.take m,w<BB:=fun w hw=>hx w (List.mem_of_mem_take hw)
 have hvt:∀ w∈vs.take m,w<BB:=fun w hw=>hv w (List.mem_of_mem_take hw)
 have lx:=wval_le_of_len (n:=m) hxt (by simp;omega)
 have lv:=wval_le_of_len (n:=m) hvt (by simp;omega)
 have ex:wval xs=wval (xs.take m)+((xs.getD (m+2) 0*BB+xs.getD (m+1) 0)*BB+xs.getD m 0)*BB^m:=by
  have h1:wval xs=wval (xs.take (m+2+1)):=by rw[List.take_of_length_le (by omega)]
  rw[h1,take_succ_any,take_succ_any,take_succ_any]
  simp only[Nat.pow_succ]
  generalize xs.getD (m+2) 0=a
  generalize xs.getD (m+1) 0=b
  generalize xs.getD m 0=c
  generalize BB^m=P
  rw[Nat.add_mul,Nat.add_mul,Nat.add_mul]
  rw[show a*BB*BB*P=P*BB*BB*a by rw[Nat.mul_comm,Nat.mul_comm a BB,Nat.mul_comm _ BB,← Nat.mul_assoc,← Nat.mul_assoc]]
  rw[show b*BB*P=P*BB*b by rw[Nat.mul_comm,Nat.mul_comm b BB,← Nat.mul_assoc]]
  rw[Nat.mul_comm c P]
  omega
 have ev:wval vs=wval (vs.take m)+(vs.getD (m+1) 0*BB+vs.getD m 0)*BB^m:=by
  have h1:wval vs=wval (vs.take (m+1+1)):=by rw[List.take_of_length_le (by omega)]
  rw[h1,take_succ_any,take_succ_any]
  simp only[Nat.pow_succ]
  generalize vs.getD (m+1) 0=b
  generalize vs.getD m 0=c
  generalize BB^m=P
  rw[Nat.add_mul]
  rw[show b*BB*P=P*BB*b by rw[Nat.mul_comm,Nat.mul_comm b BB,← Nat.mul_assoc]]
  rw[Nat.mul_comm c P]
  omega
 obtain⟨g1,g2,g3⟩:=hg
 generalize (xs.getD (m+2) 0*BB+xs.getD (m+1) 0)*BB+xs.getD m 0=T3 at *
 have hV2:BB≤vs.getD (m+1) 0*BB+vs.getD m 0:=by
  have:1*BB≤vs.getD (m+1) 0*BB:=Nat.mul_le_mul_right _ hv1
  omega
 generalize vs.getD (m+1) 0*BB+vs.getD m 0=V2 at *
 have hP:0<BB^m:=Nat.pow_pos BB_pos
 have hV0:0<V2:=Nat.lt_of_lt_of_le BB_pos hV2
 have hVlo:V2*BB^m≤wval vs:=by omega
 have hVhi:wval vs<(V2+1)*BB^m:=by rw[Nat.add_mul,Nat.one_mul];omega
 have hUlo:T3*BB^m≤wval xs:=by omega
 have hUhi:wval xs<(T3+1)*BB^m:=by rw[Nat.add_mul,Nat.one_mul];omega
 have hVpos:0<wval vs:=Nat.lt_of_lt_of_le (Nat.mul_pos hV0 hP) hVlo
 refine⟨g3 _ ?_ ?_,guess_right hP hVlo hVhi hUlo g2 (by omega)⟩
 · rw[Nat.div_lt_iff_lt_mul hVpos];exact hlt
 · have:=quo_le hV0 hVlo hUhi
   rw[Nat.le_div_iff_mul_le hV0]at this
   exact this
theorem step_right {X Y V g k P:Nat}(hV:0<V)(hg:X / V≤g)(he:X+P*k=Y+g*V)(h0:k=0):g=X / V∧Y=X%V:=by
 subst h0
 have h1:g*V≤X:=by omega
 have h2:g≤X / V:=(Nat.le_div_iff_mul_le hV).2 h1
 have h3:g=X / V:=by omega
 have:=Nat.div_add_mod X V
 have e:g*V=V*(X / V):=by rw[h3,Nat.mul_comm]
 exact⟨h3,by omega⟩
theorem step_wrong {X Y V g P:Nat}(hV:0<V)(hg:X / V≤g)(hg2:g≤X / V+1)(hY:Y<P)(he:X+P*1=Y+g*V):g-1=X / V∧1≤g∧Y+V=X%V+P:=by
 have h1:X<g*V:=by omega
 have h2:X / V<g:=by rw[Nat.div_lt_iff_lt_mul hV];exact h1
 have h3:g=X / V+1:=by omega
 have:=Nat.div_add_mod X V
 have e:g*V=V*(X / V)+V:=by rw[h3,Nat.add_mul,Nat.one_mul,Nat.mul_comm]
 generalize g*V=gv at *
 generalize V*(X / V)=p at *
 generalize X / V=q at *
 generalize X%V=r at *
 exact⟨by omega,by omega,by omega⟩
theorem back_rest {Yt Z V r P t c:Nat}(hZ:Z<P)(hr:r<P)(hs:Yt+V=Z+P*c)(hY:Yt+P*t+V=r+P*BB):Z=r:=by
 have h:Z+P*(c+t)=r+P*BB:=by rw[Nat.mul_add];omega
 have h1:=congrArg (· % P) h
 simp only[Nat.add_mul_mod_self_left,Nat.mod_eq_of_lt hZ,Nat.mod_eq_of_lt hr]at h1
 exact h1
def KI (R V:Nat) (L:Nat) (us os:List Nat) (j:Nat):Prop:=us.length=L∧(∀ w∈us,w<BB)∧(∀ w∈os,w<BB)∧wval (us.drop j)<V∧R=wval us+BB^j*(wval os*V)
theorem KI.high {R V L n j:Nat}{us os:List Nat}(h:KI R V L us os (j+1))(hV:V<BB^n)(hjl:j+n<L):wval (us.drop (j+n+1))=0∧wval ((us.drop j).take (n+1))=wval (us.drop j)∧wval ((us.drop j).take (n+1))<BB*V:=by
 obtain⟨h1,h2,h3,h4,h5⟩:=h
 have e1:=wval_split (us.drop (j+1)) n (by simp;omega)
 rw[List.drop_drop,show j+1+n=j+n+1 by omega]at e1
 have hz:wval (us.drop (j+n+1))=0:=by
  rcases Nat.eq_zero_or_pos (wval (us.drop (j+n+1))) with h|h
  · exact h
  · have:BB^n*1≤BB^n*wval (us.drop (j+n+1)):=Nat.mul_le_mul_left _ h
    omega
 have e2:=wval_split (us.drop j) (n+1) (by simp;omega)
 rw[List.drop_drop,show j+(n+1)=j+n+1 by omega,hz,Nat.mul_zero,Nat.add_zero]at e2
 refine⟨hz,e2.symm,?_⟩
 rw[← e2,wval_drop (by omega)]
 have hw:=h2 _ (mem_getD (xs:=us) (i:=j) (by omega))
 have:BB*(wval (us.drop (j+1))+1)≤BB*V:=Nat.mul_le_mul_left _ h4
 rw[Nat.mul_add,Nat.mul_one]at this
 omega
theorem KI.step {R V L n j q:Nat}{us os zs:List Nat}(h:KI R V L us os (j+1))(hV0:0<V)(hV:V<BB^n)(hjl:j+n<L)(hzl:zs.length=n+1)(hz:∀ z∈zs,z<BB)
 (hzv:wval zs=wval ((us.drop j).take (n+1))%V) (hq:q=wval ((us.drop j).take (n+1)) / V):KI R V L (us.take j++(zs++us.drop (j+n+1))) (q :: os) j:=by
 obtain⟨g1,g2,g3⟩:=h.high hV hjl
 obtain⟨h1,h2,h3,h4,h5⟩:=h
 have hlen:(us.take j).length=j:=by simp;omega
 have e0:(us.take j++(zs++us.drop (j+n+1))).drop j=zs++us.drop (j+n+1):=by
  rw[List.drop_append,List.drop_of_length_le (by omega),hlen,Nat.sub_self,List.drop_zero,List.nil_append]
 have e1:wval (zs++us.drop (j+n+1))=wval zs:=by rw[wval_append,g1,Nat.mul_zero,Nat.add_zero]
 have hqB:q<BB:=by rw[hq,Nat.div_lt_iff_lt_mul hV0];exact g3
 refine⟨by simp[hzl];omega,?_,?_,?_,?_⟩
 · intro w hw
   rcases List.mem_append.1 hw with hw|hw
   · exact h2 w (List.mem_of_mem_take hw)
   · rcases List.mem_append.1 hw with hw|hw
     · exact hz w hw
     · exact h2 w (List.mem_of_mem_drop hw)
 · intro w hw
   rcases List.mem_cons.1 hw with hw|hw
   · rw[hw];exact hqB
   · exact h3 w hw
 · rw[e0,e1,hzv];exact Nat.mod_lt _ hV0
 · rw[wval_append,e1,hlen,wval]
   have e2:=wval_split us j (by omega)
   have e3:=Nat.div_add_mod (wval (us.drop j)) V
   rw[g2]at hzv hq
   rw[← hzv,← hq]at e3
   rw[h5,e2,← e3,Nat.pow_succ]
   generalize wval (us.take j)=A
   generalize wval zs=Z
   generalize wval os=W
   generalize BB^j=P
   rw[Nat.mul_add P,Nat.add_mul q,Nat.mul_add P,Nat.mul_comm V q]
   rw[show P*BB*(W*V)=P*(BB*W*V) by rw[Nat.mul_assoc P,Nat.mul_assoc BB]]
   omega
theorem KI.done {R V L:Nat}{us os:List Nat}(h:KI R V L us os 0):wval us=R%V∧wval os=R / V:=by
 obtain⟨h1,h2,h3,h4,h5⟩:=h
 rw[List.drop_zero]at h4
 rw[Nat.pow_zero,Nat.one_mul]at h5
 rw[h5,Nat.add_mul_mod_self_right,Nat.mod_eq_of_lt h4,Nat.add_mul_div_right _ _ (by omega),Nat.div_eq_of_lt h4,Nat.zero_add]
 exact⟨rfl,rfl⟩
end Go.Gb
namespace Go.Proofs.YtcihodmmaclihaaGreatDoor
open Go.RowKit Go.Gb
theorem addBack_any (g c b2 o2 c2 n:Nat)(pre xs post vs:List Nat)(hxl:xs.length=n+1)(hvl:vs.length=n)(hn:n≤100000)(hx:∀ x∈xs,x<BB)(hv:∀ v∈vs,v<BB)(w:World)
 (hb:Blk w g (pre++(xs++post))) (hb2:b2<w.heap.size) (hne:b2≠g) (hcv:∀ i,i<n→w.cell? ⟨b2,o2+i,none⟩=some (.int .u64 ((vs.getD i 0:Nat):Int))) :
 Calls Tryz.prog 203 #[.slice (some ⟨g,pre.length,none⟩) (n+1) c,.slice (some ⟨b2,o2,none⟩) n c2] w fun e w' =>
  e=.returned (.tuple #[])∧(∃ (ys:List Nat) (k:Nat),ys.length=n∧(∀ y∈ys,y<BB)∧wval ys+BB^n*k=wval (xs.take n)+wval vs∧Blk w' g (pre++((ys++[0])++post)))∧w.grownBy w' (some g):=by
 have HX:=hid hx
 have HV:=hid hv
 have HB:=hid hb
 have HCV:=hid hcv
 have HXL:=hid hxl
 have HVL:=hid hvl
 clear hx hv hb hcv hxl hvl
 go_enter Tryz.func203,Tryz.ntmps203
 go_wp2
 go_loopw [4,5,6,7,10] (fun cc _ _ _ ii wr=>∃ (i k:Nat) (ys:List Nat),i≤n∧ii=.int .i64 i∧cc=.int .u64 (k:Int)∧Hid (SumInv xs vs ys i k)∧Hid (Blk wr g (pre++(ys++(xs.drop i++post))))∧Hid (w.grownBy wr (some g))) (fun _ _ _ _ ii _=>n-(intOf ii).toNat)
 case atStart=>exact⟨0,0,[],Nat.zero_le _,rfl,rfl,SumInv.start xs vs,HB,World.grownBy.refl _ _⟩
 case round =>
  obtain⟨i,k,ys,hi,rfl,rfl,hI,hB,hG⟩:=hrel
  have hdr:=drop_consD (xs:=xs) (i:=i) (by have:=HXL.out;omega)
  have hxw:=HX.out _ (mem_getD (xs:=xs) (i:=i) (by have:=HXL.out;omega))
  have hB':=hB.out
  rw[hdr,List.cons_append]at hB'
  have hyl:ys.length=i:=hI.out.1
  have hcell:=hB'.cell (i:=pre.length+ys.length) (by simp)
  have hfree:=hB'.free (pre.length+ys.length)
  have hset:=fun z:Nat=>hB'.set (pre.length+ys.length) z
  rw[get_mid]at hcell
  simp only[set_mid']at hset
  rw[hyl]at hcell hfree hset
  have hk:k≤1:=hI.out.2.2.1
  have hk2:(k:Int)≤1:=by omega
  by_cases hlt:i<n
  · have hcv:=(grown_cell hG.out hb2 hne).trans (HCV.out i hlt)
    have hvw:=HV.out _ (mem_getD (xs:=vs) (i:=i) (by have:=HVL.out;omega))
    have hnx:=hI.out.step hxw hvw
    have HN1:=hid hnx
    have HS1:=hid (hset ((xs.getD i 0+vs.getD i 0+k)%BB))
    have hG1:=hid (Lib.grownBy_setB hG.out (pre.length+i) (.int .u64 (((xs.getD i 0+vs.getD i 0+k)%BB:Nat):Int)))
    clear hnx hset hB' hdr hyl hB
    generalize xs.getD i 0=x at *
    generalize vs.getD i 0=v at *
    have hmod:((x:Int)+(v:Int)+(k:Int))%1000000000=(((x+v+k)%BB:Nat):Int):=by rw[BB_eq];omega
    have hdiv:((x:Int)+(v:Int)+(k:Int)) / 1000000000=(((x+v+k) / BB:Nat):Int):=by rw[BB_eq];omega
    have hx2:(x:Int)≤999999999:=by rw[BB_eq]at hxw;omega
    have hv2:(v:Int)≤999999999:=by rw[BB_eq]at hvw;omega
    have i1:(i:Int)<(n:Int):=by omega
    rw[← hmod]at HS1 hG1
    have HDv:=hid hdiv
    clear hmod hdiv hvw hxw hk
    go_wp2
    go_roundw
    case rel=>exact⟨i+1,(x+v+k) / BB,ys++[(x+v+k)%BB],by omega,by go_num,by rw[HDv.out],HN1,by rw[List.append_assoc];exact HS1,hG1⟩
    case measure=>simp[intOf];omega
  · have hi':i=n:=by omega
    subst hi'
    have hd0:xs.drop (i+1)=[]:=List.drop_of_length_le (by have:=HXL.out;omega)
    rw[hd0,List.nil_append]at hset
    have HS1:=hid (hset 0)
    have hG1:=hid (Lib.grownBy_setB hG.out (pre.length+i) (.int .u64 ((0:Nat):Int)))
    obtain⟨f1,f2,f3,f4⟩:=hI.out
    rw[List.take_of_length_le (show vs.length≤i by have:=HVL.out;omega)]at f4
    have HF:=hid f4
    have HF2:=hid f2
    clear hset hB' hdr hB hI hd0 f2 f3 f4 hyl
    generalize xs.getD i 0=x at *
    go_wp2
    go_end0
    exact⟨rfl,⟨ys,k,f1,HF2.out,HF.out,by rw[List.append_assoc];exact HS1.out⟩,hG1.out⟩
end Go.Proofs.YtcihodmmaclihaaGreatDoor
namespace Go.Gb
theorem wval_inj {xs ys:List Nat}(hl:xs.length=ys.length)(hx:∀ w∈xs,w<BB)(hy:∀ w∈ys,w<BB)(h:wval xs=wval ys):xs=ys:=by
 induction xs generalizing ys with
 | nil=>exact(List.length_eq_zero_iff.1 hl.symm).symm
 | cons x xs ih =>
   match ys,hl with
   | y :: ys,hl =>
     rw[wval,wval]at h
     have h1:=hx x (by simp)
     have h2:=hy y (by simp)
     have e:=congrArg (· % BB) h
     simp only[Nat.add_mul_mod_self_left,Nat.mod_eq_of_lt h1,Nat.mod_eq_of_lt h2]at e
     subst e
     have e2:BB*wval xs=BB*wval ys:=by omega
     rw[ih (by simpa using hl) (fun w hw=>hx w (by simp[hw])) (fun w hw=>hy w (by simp[hw])) (Nat.eq_of_mul_eq_mul_left BB_pos e2)]
theorem digs_one {s:Nat}(h0:0<s)(h:s<BB):digs s=[s]:=by
 rw[digs_pos (by omega),Nat.div_eq_of_lt h,digs_zero,Nat.mod_eq_of_lt h]
theorem scaled {b s n y:Nat}(hb:b≠0)(hn:(digs b).length=n)(hy:y=(digs b).getD (n-1) 0)(hs:s=BB / (y+1)) :
 1≤y∧y<BB∧1≤s∧s<BB∧(digs (b*s)).length=n∧b*s<BB^n∧500000000≤(digs (b*s)).getD (n-1) 0∧BB^(n-1)≤b:=by
 have hne:digs b≠[]:=by rw[digs_pos hb];simp
 have hn0:0<n:=by rw[← hn];exact List.length_pos_iff.2 hne
 have hyl:y=(digs b).getLast hne:=by rw[hy,← hn,getD_of_lt (by omega),List.getLast_eq_getElem]
 have hy1:1≤y:=by have:=digs_last b hne;rw[← hyl]at this;omega
 have hy2:y<BB:=by rw[hy];exact digs_lt b _ (mem_getD (by omega))
 obtain⟨k1,k2,k3,k4⟩:=scale_half hy1 hy2
 rw[← hs]at k1 k2 k3 k4
 obtain⟨m,rfl⟩:∃ m,n=m+1:=⟨n-1,by omega⟩
 rw[show m+1-1=m by omega]at *
 have eb:b=wval ((digs b).take m)+BB^m*y:=by
  conv=>lhs;rw[← wval_digs b]
  rw[← List.take_of_length_le (show(digs b).length≤m+1 by omega),take_succ_any,List.take_take,Nat.min_eq_left (by omega),hy]
 have lb:=wval_le_of_len (n:=m) (xs:=(digs b).take m) (fun w hw=>digs_lt b w (List.mem_of_mem_take hw)) (by simp;omega)
 have hblo:BB^m*y≤b:=by omega
 have hbhi:b<BB^m*(y+1):=by rw[Nat.mul_add,Nat.mul_one];omega
 have hlt:b*s<BB^(m+1):=by
  have h1:b*s<BB^m*(y+1)*s:=Nat.mul_lt_mul_of_pos_right hbhi (by omega)
  have h2:BB^m*(y+1)*s≤BB^m*BB:=by rw[Nat.mul_assoc];exact Nat.mul_le_mul_left _ k2
  rw[Nat.pow_succ];omega
 have hge:BB^m*(y*s)≤b*s:=by rw[← Nat.mul_assoc];exact Nat.mul_le_mul_right _ hblo
 have hpow:BB^m≤b:=by
  have:BB^m*1≤BB^m*y:=Nat.mul_le_mul_left _ hy1
  omega
 have hl1:=digs_length_le hlt
 have hbs:b≤b*s:=by have:=Nat.mul_le_mul_left b k3;omega
 have hl2:=digs_length_mono hbs
 have hlen:(digs (b*s)).length=m+1:=by omega
 refine⟨hy1,hy2,k3,k4,hlen,hlt,?_,hpow⟩
 have ev:b*s=wval ((digs (b*s)).take m)+BB^m*(digs (b*s)).getD m 0:=by
  conv=>lhs;rw[← wval_digs (b*s)]
  rw[← List.take_of_length_le (show(digs (b*s)).length≤m+1 by omega),take_succ_any,List.take_take,Nat.min_eq_left (by omega),List.take_of_length_le (show(digs (b*s)).length≤m+1 by omega)]
 have lv:=wval_le_of_len (n:=m) (xs:=(digs (b*s)).take m) (fun w hw=>digs_lt _ w (List.mem_of_mem_take hw)) (by simp;omega)
 have h3:BB^m*(y*s)<BB^m*((digs (b*s)).getD m 0+1):=by rw[Nat.mul_add,Nat.mul_one];omega
 have h4:=Nat.lt_of_mul_lt_mul_left h3
 omega
theorem KI.start {a b s m n:Nat}(hm:(digs a).length=m)(hn0:0<n)(hnm:n≤m)(hb:BB^(n-1)≤b)(hs:0<s)(hsB:s<BB) :
 KI (a*s) (b*s) (m+1) (digs (a*s)++List.replicate (m+1-(digs (a*s)).length) 0) [] (m-n+1)∧(digs (a*s)).length≤m+1:=by
 have ha:a<BB^m:=by rw[← hm];exact lt_pow_digs a
 have hR:a*s<BB^(m+1):=by rw[Nat.pow_succ];exact Nat.mul_lt_mul_of_lt_of_le ha (Nat.le_of_lt hsB) BB_pos
 have hl:=digs_length_le hR
 generalize hus:digs (a*s)++List.replicate (m+1-(digs (a*s)).length) 0=us
 have hul:us.length=m+1:=by rw[← hus];simp;omega
 have huw:wval us=a*s:=by rw[← hus,wval_zeros,wval_digs]
 have huB:∀ w∈us,w<BB:=by
  intro w hw
  rw[← hus]at hw
  rcases List.mem_append.1 hw with hw|hw
  · exact digs_lt _ w hw
  · rw[(List.mem_replicate.1 hw).2];exact BB_pos
 refine⟨⟨hul,huB,by simp,?_,by simp[wval,huw]⟩,hl⟩
 have hsp:=wval_split us (m-n+1) (by omega)
 rw[huw]at hsp
 have h1:BB^(m-n+1)*wval (us.drop (m-n+1))<BB^(m-n+1)*(b*s):=by
  have e1:BB^m*s=BB^(m-n+1)*(BB^(n-1)*s):=by rw[← Nat.mul_assoc,← Nat.pow_add,show m-n+1+(n-1)=m by omega]
  have e2:a*s<BB^m*s:=Nat.mul_lt_mul_of_pos_right ha hs
  have e3:BB^(n-1)*s≤b*s:=Nat.mul_le_mul_right _ hb
  have e4:BB^(m-n+1)*(BB^(n-1)*s)≤BB^(m-n+1)*(b*s):=Nat.mul_le_mul_left _ e3
  omega
 exact Nat.lt_of_mul_lt_mul_left h1
theorem top_le {xs vs:List Nat}{n:Nat}(hn:0<n)(hxl:xs.length=n+1)(hvl:vs.length=n)(hv:∀ v∈vs,v<BB)(hlt:wval xs<BB*wval vs):xs.getD n 0≤vs.getD (n-1) 0:=by
 obtain⟨m,rfl⟩:∃ m,n=m+1:=⟨n-1,by omega⟩
 rw[show m+1-1=m by omega]
 have e1:wval xs=wval (xs.take (m+1))+BB^(m+1)*xs.getD (m+1) 0:=by rw[← take_succ_any,List.take_of_length_le (by omega)]
 have e2:wval vs=wval (vs.take m)+BB^m*vs.getD m 0:=by rw[← take_succ_any,List.take_of_length_le (by omega)]
 have lv:=wval_le_of_len (n:=m) (xs:=vs.take m) (fun w hw=>hv w (List.mem_of_mem_take hw)) (by simp;omega)
 have h3:wval vs<BB^m*(vs.getD m 0+1):=by rw[Nat.mul_add,Nat.mul_one];omega
 have h4:BB*wval vs<BB*(BB^m*(vs.getD m 0+1)):=Nat.mul_lt_mul_of_pos_left h3 BB_pos
 have h5:BB*(BB^m*(vs.getD m 0+1))=BB^(m+1)*(vs.getD m 0+1):=by rw[← Nat.mul_assoc,Nat.pow_succ,Nat.mul_comm BB]
 have h6:BB^(m+1)*xs.getD (m+1) 0<BB^(m+1)*(vs.getD m 0+1):=by omega
 have:=Nat.lt_of_mul_lt_mul_left h6
 omega
theorem getD_mid {us:List Nat}{j n i:Nat}(h:i<n):((us.drop j).take n).getD i 0=us.getD (j+i) 0:=by
 simp[List.getD,h,List.getElem?_drop]
theorem part_split (us:List Nat)(j n:Nat):us=us.take j++((us.drop j).take n++us.drop (j+n)):=by
 conv=>lhs;rw[← List.take_append_drop j us,← List.take_append_drop n (us.drop j),List.drop_drop]
theorem digs_cells {us:List Nat}(hB:∀ w∈us,w<BB){i:Nat}(h:i<(digs (wval us)).length):(digs (wval us)).getD i 0=us.getD i 0∧i<us.length:=by
 have hlen:(digs (wval us)).length≤us.length:=digs_length_le (wval_lt us hB)
 refine⟨?_,by omega⟩
 have e:wval us=wval (digs (wval us)++List.replicate (us.length-(digs (wval us)).length) 0):=by rw[wval_zeros,wval_digs]
 have h1:us=digs (wval us)++List.replicate (us.length-(digs (wval us)).length) 0:=by
  refine wval_inj (by simp;omega) hB ?_ e
  intro w hw
  rcases List.mem_append.1 hw with hw|hw
  · exact digs_lt _ w hw
  · rw[(List.mem_replicate.1 hw).2];exact BB_pos
 conv=>rhs;rw[h1]
 simp[List.getD,List.getElem?_append_left h]
end Go.Gb
namespace Go.Proofs.YtcihodmmaclihaaGreatDoor
open Go.RowKit Go.Gb
theorem splice_zeros {D:List Nat}{L:Nat}:splice (cls .u64 (List.replicate L 0)) 0 (cls .u64 D)=cls .u64 (D++List.replicate (L-D.length) 0):=by
 unfold splice
 rw[cls_append,cls_length]
 simp[cls]
end Go.Proofs.YtcihodmmaclihaaGreatDoor
