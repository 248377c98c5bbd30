/- texts -/
import Derived.Test.YtkiklcbhglpooaaGreatDoorMz22q
open Go.Proofs.Tryz
set_option maxRecDepth 100000
set_option maxHeartbeats 20000000
open Go.Lib (hid)
namespace Go.Gb
def RdI (xs vs:List Nat) (t:Nat) (ys:List Nat) (i C b:Nat):Prop:=SubI xs vs t ys i (C+b)∧C≤999999999∧b≤1
theorem RdI.start (xs vs:List Nat)(t:Nat):RdI xs vs t [] 0 0 0:=⟨SubI.start xs vs t,by omega,by omega⟩
theorem RdI.keep {xs vs ys:List Nat}{t i C b x v:Nat}(h:RdI xs vs t ys i C b)(ex:xs.getD i 0=x)(ev:vs.getD i 0=v)(ht:t<BB)(hv:v<BB)(hx:x<BB)(hle:(t*v+C)%BB+b≤x):RdI xs vs t (ys++[x-((t*v+C)%BB+b)]) (i+1) ((t*v+C) / BB) 0:=by
 obtain⟨h1,h2,h3⟩:=h;have hq:=(kI (t:=t) (v:=v) (c:=C) ht hv (by rw[aH];omega)).2;have hd:=Nat.div_add_mod (t*v+C) BB;have hqB:(t*v+C) / BB+1≤BB:=by rw[aH]at hq ⊢;omega
 refine⟨h1.next (by omega) (by omega) ?_,hq,by omega⟩;rw[ex,ev];generalize t*v=p at *;generalize (p+C) / BB=q at *;generalize (p+C)%BB=lo at *;rw[Nat.add_zero];omega
theorem RdI.borrow {xs vs ys:List Nat}{t i C b x v:Nat}(h:RdI xs vs t ys i C b)(ex:xs.getD i 0=x)(ev:vs.getD i 0=v)(ht:t<BB)(hv:v<BB)(hlt:x<(t*v+C)%BB+b):RdI xs vs t (ys++[x+BB-((t*v+C)%BB+b)]) (i+1) ((t*v+C) / BB) 1:=by
 obtain⟨h1,h2,h3⟩:=h;have hq:=(kI (t:=t) (v:=v) (c:=C) ht hv (by rw[aH];omega)).2;have hd:=Nat.div_add_mod (t*v+C) BB;have hm:=Nat.mod_lt (t*v+C) bN;have hqB:(t*v+C) / BB+1≤BB:=by rw[aH]at hq ⊢;omega
 refine⟨h1.next (by omega) (by omega) ?_,hq,by omega⟩;rw[ex,ev];generalize t*v=p at *;generalize (p+C) / BB=q at *;generalize (p+C)%BB=lo at *;rw[Nat.mul_add];omega
end Go.Gb
namespace Go.Proofs.YtkiklcbhglpooaaGreatDoor
open Go.RowKit Go.Gb
theorem wC {w w':World}{row:Option Nat}(h:w.grownBy w' row)(n:Nat):w.grownBy (w'.drewN n) row:=⟨h.os,h.tape,h.output,h.size,h.block⟩
theorem xw (g cap b2 o2 c2 n t A U:Nat)(pre xs post vs:List Nat)(hA:pre.length=A)(hU:(pre++(xs++post)).length=U)(hxl:xs.length=n+1)(hvl:vs.length=n)(hn:n≤100000)(hA9:A≤100000)(ht:t<BB)(hx:∀ x∈xs,x<BB)(hv:∀ v∈vs,v<BB)
 (hV0:0<ai vs) (hVn:ai vs<BB^n) (hg1:ai xs / ai vs≤t) (hg2:t≤ai xs / ai vs+1) (w:World)
 (hb:Row4 w g cap (pre++(xs++post))) (hb2:b2<w.heap.size) (hne:b2≠g) (hcv:∀ i,i<n→w.cell? ⟨b2,o2+i,none⟩=some (.int .u32 ((vs.getD i 0:Nat):Int))) :
 Calls Tryz.prog 176 #[.slice (some ⟨g,0,none⟩) U cap,.slice (some ⟨b2,o2,none⟩) n c2,.int .i64 (A:Int),.int .u64 (t:Int)] w fun e w' =>
  ∃ zs:List Nat,e=.returned (.int .u32 ((ai xs / ai vs:Nat):Int))∧zs.length=n+1∧(∀ z∈zs,z<BB)∧ai zs=ai xs%ai vs∧Row4 w' g cap (pre++(zs++post))∧w.grownBy w' (some g):=by
 obtain ⟨HX,HV,HB,HCV,HT,HXL,HVL,HA,HG⟩:=bZ hx hv hb hcv ht hxl hvl hA (And.intro hg1 hg2);have HV0:=hid (And.intro hV0 hVn);have hUn:A+n<U:=by rw[← hU,← hA,List.length_append,List.length_append,hxl];omega
 have ht9:(t:Int)≤999999999:=by rw[aH]at ht;omega
 clear hx hv hb hcv ht hxl hvl hA hU hg1 hg2 hV0 hVn;go_enter func176,ntmps176
 go_wp2;go_loopw [10,11,12] (fun bb cc ii wr=>∃ (i C b:Nat) (ys:List Nat),i≤n∧ii=.int .i64 i∧cc=.int .u64 (C:Int)∧bb=.int .i64 (b:Int)∧Hid (RdI xs vs t ys i C b)∧Hid (Row4 wr g cap (pre++(ys++(xs.drop i++post))))∧Hid (w.grownBy wr (some g))) (fun _ _ ii _=>n-(intOf ii).toNat)
 case atStart=>exact⟨0,0,0,[],Nat.zero_le _,rfl,rfl,rfl,RdI.start xs vs t,HB,World.grownBy.refl _ _⟩
 case round =>
  obtain⟨i,C,b,ys,hi,rfl,rfl,rfl,hI,hB,hG⟩:=hrel;have hdr:=eY (xs:=xs) (i:=i) (by have:=HXL.o;omega);have hxw:=HX.o _ (bi (xs:=xs) (i:=i) (by have:=HXL.o;omega));have hB':=hB.o;rw[hdr,List.cons_append]at hB';have hyl:ys.length=i:=hI.o.1.1;have hcell:=hB'.cell (i:=pre.length+ys.length) (by simp);have hfree:=hB'.free (pre.length+ys.length);rw[nZ]at hcell;rw[hyl,HA.o]at hcell hfree;have hC9:(C:Int)≤999999999:=by have:=hI.o.2.1;omega
  have hb1:(b:Int)≤1:=by have:=hI.o.2.2;omega
  have i3:(n:Int)≤100000:=by omega
  have i4:(A:Int)≤100000:=by omega
  have i5:(A:Int)+(n:Int)<(U:Int):=by omega
  have hi9:(i:Int)≤(n:Int):=by omega
  by_cases hlt:i<n
  · have hcv:=(iT hG.o hb2 hne).trans (HCV.o i hlt)
    have hvw:=HV.o _ (bi (xs:=vs) (i:=i) (by have:=HVL.o;omega));have hpc:=kI (c:=C) HT.o hvw (by rw[aH];omega)
    have hset:∀ (z:Nat),Row4 (wr.setCell ⟨g,A+i,none⟩ (.int .u32 (z:Int))) g cap (pre++(ys++(z :: (xs.drop (i+1)++post)))):=by
        intro z;have:=hB'.set (pre.length+ys.length) z;rwa [j6,hyl,HA.o]at this
    have hkp:=fun x v (e1:xs.getD i 0=x) (e2:vs.getD i 0=v)=>hI.o.keep e1 e2 HT.o;have hbw:=fun x v (e1:xs.getD i 0=x) (e2:vs.getD i 0=v)=>hI.o.borrow e1 e2 HT.o;have HKP:=hid (hkp _ _ rfl rfl hvw hxw);have u6:=hid (hbw _ _ rfl rfl hvw);have HSET:=hid hset;clear hkp hbw hset hB' hdr hyl hB hI;generalize xs.getD i 0=x at *;generalize vs.getD i 0=v at *;obtain⟨p,hp⟩:∃ p:Nat,p=t*v:=⟨_,rfl⟩;have e1:(t:Int)*(v:Int)=(p:Int):=by rw[hp];exact(Int.natCast_mul _ _).symm
    rw[← hp]at hpc HKP u6;have w1:IntKind.u64.wrap (p:Int)=(p:Int):=IntWalk.u64_in _ (by omega);obtain⟨q,hq⟩:∃ q:Nat,q=(p+C) / BB:=⟨_,rfl⟩;obtain⟨lo,hlo⟩:∃ lo:Nat,lo=(p+C)%BB:=⟨_,rfl⟩;rw[← hq]at hpc HKP u6;rw[← hlo]at HKP u6;have hmod:((p:Int)+(C:Int))%1000000000=(lo:Int):=by rw[hlo,aH];omega
    have hdiv:((p:Int)+(C:Int)) / 1000000000=(q:Int):=by rw[hq,aH];omega
    have hlo2:(lo:Int)≤999999999:=by rw[aH]at hlo;omega
    have hx2:(x:Int)≤999999999:=by rw[aH]at hxw;omega
    have hv2:(v:Int)≤999999999:=by rw[aH]at hvw;omega
    have hp2:(p:Int)≤999999998000000001:=by omega
    have hq2:(q:Int)≤999999999:=by omega
    have i1:(i:Int)<(n:Int):=by omega
    clear hp hq hlo hpc hvw hxw;by_cases hle:lo+b≤x
    · obtain⟨y,hy⟩:∃ y:Nat,y=x-(lo+b):=⟨_,rfl⟩
      have hval:(x:Int)-(lo:Int)-(b:Int)=(y:Int):=by omega
      have hneg:decide ((y:Int)<0)=false:=decide_eq_false (by omega);have hy9:(y:Int)≤999999999:=by omega
      have HN:=hid (show RdI xs vs t (ys++[y]) (i+1) q 0 by rw[hy];exact HKP.o hle);obtain ⟨HS,HGG⟩:=aD (HSET.o y) (Lib.grownBy_setB hG.o (A+i) (.int .u32 (y:Int)));clear HKP u6 HSET hy hle hG;go_wp2;go_roundw
      case rel=>exact⟨i+1,q,0,ys++[y],by omega,by go_num,cZ hdiv,rfl,HN,by rw[List.append_assoc];exact HS,HGG⟩
      case measure=>simp[intOf];omega
    · obtain⟨y,hy⟩:∃ y:Nat,y=x+BB-(lo+b):=⟨_,rfl⟩
      have hval:(x:Int)-(lo:Int)-(b:Int)+1000000000=(y:Int):=by rw[aH]at hy;omega
      have hneg:(x:Int)-(lo:Int)-(b:Int)<0:=by omega
      have hy9:(y:Int)≤999999999:=by omega
      have HN:=hid (show RdI xs vs t (ys++[y]) (i+1) q 1 by rw[hy];exact u6.o (by omega));obtain ⟨HS,HGG⟩:=aD (HSET.o y) (Lib.grownBy_setB hG.o (A+i) (.int .u32 (y:Int)));clear HKP u6 HSET hy hle hG;go_wp2;go_roundw
      case rel=>exact⟨i+1,q,1,ys++[y],by omega,by go_num,cZ hdiv,rfl,HN,by rw[List.append_assoc];exact HS,HGG⟩
      case measure=>simp[intOf];omega
  · have hi':i=n:=by omega
    subst hi';have hd0:xs.drop (i+1)=[]:=List.drop_of_length_le (by have:=HXL.o;omega);rw[hd0,List.nil_append]at hB';have hlast:=fun(k y:Nat) (h2:y<BB) h3=>hI.o.1.last (y:=y) (k:=k) HVL.o HXL.o h2 h3
    have hset:∀ (z:Nat),Row4 (wr.setCell ⟨g,A+i,none⟩ (.int .u32 (z:Int))) g cap (pre++(ys++(z :: post))):=by
        intro z;have:=hB'.set (pre.length+ys.length) z;rwa [j6,hyl,HA.o]at this
    obtain ⟨HL,HSET,Hyl⟩:=au hlast hset hyl;have hCb:=hI.o.2;have d1:decide ((i:Int)<(i:Int))=false:=decide_eq_false (by omega);clear hlast hset hB' hdr hyl hB hI hd0 hi9;generalize xs.getD i 0=x at *;have hx2:(x:Int)≤999999999:=by rw[aH]at hxw;omega
    by_cases hle:C+b≤x
    · obtain⟨y,hy⟩:∃ y:Nat,y=x-(C+b):=⟨_,rfl⟩
      have hval:(x:Int)-(C:Int)-(b:Int)=(y:Int):=by omega
      have hy0:(0:Int)≤(y:Int):=by omega
      have hy9:(y:Int)≤999999999:=by omega
      obtain⟨f1,f2,f3⟩:=HL.o 0 y (by rw[aH];omega) (by rw[hy];omega);obtain⟨s1,s2⟩:=pM HV0.o.1 HG.o.1 f3 rfl;obtain ⟨HF,HS1,HS,HGG⟩:=aM (And.intro f1 (And.intro f2 s2)) s1 (HSET.o y) (Lib.grownBy_setB hG.o (A+i) (.int .u32 (y:Int)));clear HL HSET hy hle hG f1 f2 f3 s1 s2 hCb hxw;go_wp2;go_ret
      exact⟨ys++[y],dK (by rw[← HS1.o]),HF.o.1,HF.o.2.1,HF.o.2.2,by rw[List.append_assoc];exact HS.o,HGG.o⟩
    · obtain⟨y,hy⟩:∃ y:Nat,y=x+BB-(C+b):=⟨_,rfl⟩
      have hval:(x:Int)-(C:Int)-(b:Int)+1000000000=(y:Int):=by rw[aH]at hy;omega
      have hneg:decide (0≤(x:Int)-(C:Int)-(b:Int))=false:=decide_eq_false (by omega);have hneg2:decide ((b:Int)≤(x:Int)-(C:Int))=false:=decide_eq_false (by omega);have hy9:(y:Int)≤999999999:=by omega
      obtain⟨f1,f2,f3⟩:=HL.o 1 y (by rw[aH];omega) (by rw[hy];rw[aH]at *;omega);obtain⟨s1,s2,s3⟩:=pK HV0.o.1 HG.o.1 HG.o.2 (bW f2 (Nat.le_of_eq f1)) f3;obtain ⟨HF,HS1⟩:=aD (And.intro f1 f2) (And.intro s1 (And.intro s2 s3))
      have HS0:=hid (show Row4 (wr.setCell ⟨g,A+i,none⟩ (.int .u32 (y:Int))) g cap (pre++([]++((ys++[y]).drop 0++post))) by
       have:=HSET.o y
       rw[List.nil_append,List.drop_zero,List.append_assoc];exact this)
      have HG0:=hid (Lib.grownBy_setB hG.o (A+i) (.int .u32 (y:Int)));have ht1:(1:Int)≤(t:Int):=by omega
      have hfr:=hfree;clear HL HSET hy hle hG f1 f2 f3 s1 s2 s3 hCb hxw;go_wp2;clear hcell;generalize wr.setCell ⟨g,A+i,none⟩ (.int .u32 (y:Int))=wx at *;go_loopw [16,17] (fun cc ii wr=>∃ (k c:Nat) (zs:List Nat),k≤i∧ii=.int .i64 k∧cc=.int .u32 (c:Int)∧Hid (di (ys++[y]) vs zs k c)∧Hid (Row4 wr g cap (pre++(zs++((ys++[y]).drop k++post))))∧Hid (w.grownBy wr (some g))) (fun _ ii _=>i-(intOf ii).toNat)
      case atStart=>exact⟨0,0,[],Nat.zero_le _,rfl,rfl,di.start _ _,HS0,HG0⟩
      case round =>
       clear HS0 HG0 hfr hfree;obtain⟨k,c,zs,hk,rfl,rfl,hI,hB,hG⟩:=hrel;have hdr:=eY (xs:=ys++[y]) (i:=k) (by have:=HF.o.1;omega);have hyw:=HF.o.2 _ (bi (xs:=ys++[y]) (i:=k) (by have:=HF.o.1;omega));have hB':=hB.o;rw[hdr,List.cons_append]at hB';have hzl:zs.length=k:=hI.o.1;have hcell:=hB'.cell (i:=pre.length+zs.length) (by simp);have hfree:=hB'.free (pre.length+zs.length);rw[nZ]at hcell;rw[hzl,HA.o]at hcell hfree;have hc1:(c:Int)≤1:=by have:=hI.o.2.2.1;omega
       by_cases hlk:k<i
       · have hcv:=(iT hG.o hb2 hne).trans (HCV.o k hlk)
         have hvw:=HV.o _ (bi (xs:=vs) (i:=k) (by have:=HVL.o;omega));have HN:=hid (hI.o.step hyw hvw)
         have hset:∀ (n z:Nat),Row4 ((wr.drewN n).setCell ⟨g,A+k,none⟩ (.int .u32 (z:Int))) g cap (pre++(zs++(z :: ((ys++[y]).drop (k+1)++post)))):=by
          intro n z;have:=(hB'.drewN n).set (pre.length+zs.length) z;rwa [j6,hzl,HA.o]at this
         have HSET:=hid hset;clear hset hB' hdr hzl hB hI;generalize (ys++[y]).getD k 0=x2 at *;generalize vs.getD k 0=v at *;obtain⟨lo,hlo⟩:∃ lo:Nat,lo=(x2+v+c)%BB:=⟨_,rfl⟩;obtain⟨q,hq⟩:∃ q:Nat,q=(x2+v+c) / BB:=⟨_,rfl⟩;rw[← hq,← hlo]at HN;have hmod:((x2:Int)+(v:Int)+(c:Int))%1000000000=(lo:Int):=by rw[hlo,aH];omega
         have hdiv:((x2:Int)+(v:Int)+(c:Int)) / 1000000000=(q:Int):=by rw[hq,aH];omega
         have hx3:(x2:Int)≤999999999:=by rw[aH]at hyw;omega
         have hv3:(v:Int)≤999999999:=by rw[aH]at hvw;omega
         have j1:(k:Int)<(i:Int):=by omega
         have HGG:=hid (fun n=>Lib.grownBy_setB (wC hG.o n) (A+k) (.int .u32 (lo:Int)));have HS:=hid (fun n=>HSET.o n lo);clear hlo hq hyw hvw HSET hG;go_wp2;go_quiet (fail)
         obtain ⟨HS2,HG2⟩:=aD (HS.o nq) (HGG.o nq);have hf2:(wr.drewN nq).frozen? ⟨g,A+k,none⟩=false:=hfree;have hc2':(wr.drewN nq).cell? ⟨g,A+k,none⟩=some (.int .u32 (x2:Int)):=hcell;clear HS HGG hcell hfree hcv;generalize wr.drewN nq=w2 at *;go_wp2;go_roundw
         case rel=>exact⟨k+1,q,zs++[lo],by omega,by go_num,cZ (by omega),HN,by rw[List.append_assoc];exact HS2,HG2⟩
         case measure=>simp[intOf];omega
       · have hk':k=i:=by omega
         subst hk';have hyv:ai (ys++[y])=ai ((ys++[y]).take k)+BB^k*(ys++[y]).getD k 0:=by rw[← aJ,List.take_of_length_le (by have:=HF.o.1;omega)]
         have hgy:(ys++[y]).getD k 0=y:=by simp[List.getD,Hyl.o]
         obtain⟨f1,f2,f3,f4⟩:=hI.o;rw[List.take_of_length_le (show vs.length≤k by have:=HVL.o;omega)]at f4;have hzlt:ai zs<BB^k:=bW f2 (Nat.le_of_eq f1);have hrlt:ai xs%ai vs<BB^k:=Nat.lt_trans (Nat.mod_lt _ HV0.o.1) HV0.o.2;have s3:=HS1.o.2.2;rw[hyv,hgy,Nat.pow_succ]at s3;have hz:=uJ hzlt hrlt f4.symm s3;have ht:=z3P hzlt hrlt f4.symm s3;have hd0:(ys++[y]).drop (k+1)=[]:=List.drop_of_length_le (by have:=HF.o.1;omega);rw[hd0,List.nil_append,hgy]at hB';rw[hgy]at hcell
         have hset:Row4 (wr.setCell ⟨g,A+k,none⟩ (.int .u32 ((0:Nat):Int))) g cap (pre++(zs++(0 :: post))):=by
          have:=hB'.set (pre.length+zs.length) 0;rwa [j6,hzl,HA.o]at this
         have hmod:((y:Int)+(c:Int))%1000000000=0:=by rw[aH]at ht;omega
         obtain ⟨HSET,HGG⟩:=aD hset (Lib.grownBy_setB hG.o (A+k) (.int .u32 ((0:Nat):Int)));have HZ:=hid (show ai (zs++[0])=ai xs%ai vs by rw[dI,Nat.mul_zero,Nat.add_zero];exact hz);have HZL:=hid (show(zs++[0]).length=k+1 by simp[f1]);have HZB:=hid (ni f2 bN);have d2:decide ((k:Int)<(k:Int))=false:=decide_eq_false (by omega);clear hset hB' hdr hzl hB hI hyv hgy f1 f2 f3 f4 hzlt hrlt s3 hz ht hd0 hyw hG;go_wp2;go_ret
         exact⟨zs++[0],dK (by have:=HS1.o.1;omega),HZL.o,HZB.o,HZ.o,by rw[List.append_assoc];exact HSET.o,HGG.o⟩
open Go.Lib (hid)
theorem z4e (a1 a2:Option Addr)(n m c1 c2:Nat)(h:n≠m)(w:World) :
 Calls Tryz.prog 73 #[.slice a1 n c1,.slice a2 m c2] w fun e w'=>e=.returned (.int .i64 (cmpN n m))∧w=w':=by
 have hb:((n:Int) != (m:Int))=true:=bne_iff_ne.2 (by omega);by_cases hlt:n<m
 · have HF:=hid (gq hlt)
   go_enter func73,ntmps73
   go_wp2;go_ret
   exact⟨dK HF.o.symm,rfl⟩
 · have HF:=hid (iH (show m<n by omega))
   go_enter func73,ntmps73
   go_wp2;go_ret
   exact⟨dK HF.o.symm,rfl⟩
theorem z2k (b1 o1 c1 b2 o2 c2:Nat)(xs ys:List Nat)(hxy:xs.length=ys.length)(hx:∀ x∈xs,x<BB)(hy:∀ y∈ys,y<BB)(hl:xs.length≤1000000)(w:World)
 (hcx:∀ i,i<xs.length→w.cell? ⟨b1,o1+i,none⟩=some (.int .u32 ((xs.getD i 0:Nat):Int)))
 (hcy:∀ i,i<ys.length→w.cell? ⟨b2,o2+i,none⟩=some (.int .u32 ((ys.getD i 0:Nat):Int))) :
 CR 73 #[.slice (some ⟨b1,o1,none⟩) xs.length c1,.slice (some ⟨b2,o2,none⟩) xs.length c2] w (.int .i64 (cmpN (ai xs) (ai ys))):=by
 obtain ⟨HXY,HX,HY,HCX,HCY⟩:=bD hxy hx hy hcx hcy;clear hxy hx hy hcx hcy;have hb:((xs.length:Int) != (xs.length:Int))=false:=by simp
 go_enter func73,ntmps73
 go_wp2;go_loopw [5] (fun ii wr=>∃ z:Int,-1≤z∧z<xs.length∧ii=.int .i64 z∧Hid (z2p xs ys (z+1).toNat)∧Hid (Below w.heap.size w wr)) (fun ii _=>(intOf ii+1).toNat)
 case atStart=>exact⟨(xs.length:Int)-1,by omega,by omega,rfl,fun j h1 h2=>absurd h1 (by omega),Below.refl _ _⟩
 case round =>
  obtain⟨z,hz1',hz8,rfl,he,hn⟩:=hrel;by_cases hz:0≤z
  · obtain⟨j,rfl⟩:=Int.eq_ofNat_of_zero_le hz
    have hb1:=World.block_lt_of_cell? _ _ (HCX.o j (by omega));have hb2:=World.block_lt_of_cell? _ _ (HCY.o j (by have:=HXY.o;omega));have hcx:=(hn.o.cell (p:=⟨b1,o1+j,none⟩) hb1).trans (HCX.o j (by omega));have hcy:=(hn.o.cell (p:=⟨b2,o2+j,none⟩) hb2).trans (HCY.o j (by have:=HXY.o;omega));have he':=he.o;rw[show((j:Int)+1).toNat=j+1 by omega]at he';have HE:=hid he';clear he' he;have hjl:=hid (show j<xs.length by omega);have hL:xs.getD j 0<ys.getD j 0→ai xs<ai ys:=fun h=>jP HXY.o hjl.o HX.o (fun k h1 h2=>HE.o k (by omega) h2) h;have hG:ys.getD j 0<xs.getD j 0→ai ys<ai xs:=fun h=>jP HXY.o.symm (by have:=HXY.o;have:=hjl.o;omega) HY.o (fun k h1 h2=>(HE.o k (by omega) (by have:=HXY.o;omega)).symm) h;obtain ⟨HL,HG⟩:=aD hL hG
    have HEQ:=hid (show xs.getD j 0=ys.getD j 0→z2p xs ys j from fun h k h1 h2=>by
        by_cases hk:k=j
        · subst hk;exact h
        · exact HE.o k (by omega) h2)
    clear hL hG HE;generalize xs.getD j 0=x at *;generalize ys.getD j 0=y at *;clear hb1 hb2;have i1:(0:Int)≤(j:Int):=by omega
    have i2:(j:Int)<(xs.length:Int):=by omega
    by_cases h1:x<y
    · have HF:=hid (gq (HL.o h1))
      go_wp2;go_quiet (fail)
      have HN2:=hid (below_drewN' hn.o nq);go_wp2;go_ret
      exact⟨dK HF.o.symm,HN2.o⟩
    · by_cases h2:y<x
      · have HF:=hid (iH (HG.o h2))
        go_wp2;go_quiet (fail)
        go_wp2;have hn2:=below_drewN' hn.o nq;have hcx2:(wr.drewN nq).cell? ⟨b1,o1+j,none⟩=some (.int .u32 (x:Int)):=hcx;have hcy2:(wr.drewN nq).cell? ⟨b2,o2+j,none⟩=some (.int .u32 (y:Int)):=hcy;have HN2:=hid hn2;clear hcx hcy hn2;generalize wr.drewN nq=w2 at *;go_quiet (fail)
        have HN3:=hid (below_drewN' HN2.o nq);go_wp2;go_ret
        exact⟨dK HF.o.symm,HN3.o⟩
      · have HF:=hid (HEQ.o (by omega))
        go_wp2;go_quiet (fail)
        go_wp2;have hn2:=below_drewN' hn.o nq;have hcx2:(wr.drewN nq).cell? ⟨b1,o1+j,none⟩=some (.int .u32 (x:Int)):=hcx;have hcy2:(wr.drewN nq).cell? ⟨b2,o2+j,none⟩=some (.int .u32 (y:Int)):=hcy;have HN2:=hid hn2;clear hcx hcy hn2;generalize wr.drewN nq=w2 at *;go_quiet (fail)
        have HN3:=hid (below_drewN' HN2.o nq);go_wp2;go_roundw
        case rel=>exact⟨(j:Int)-1,by omega,by omega,rfl,by rw[show((j:Int)-1+1).toNat=j by omega];exact HF,HN3⟩
        case measure=>simp[intOf]
  · have hz0':(z+1).toNat=0:=by omega
    have he':=he.o;rw[hz0']at he';have heq:=hid (o8 HXY.o (fun j hj=>he' j (by omega) hj));clear he' hz0';go_wp2;go_ret
    exact⟨dK (by rw[heq.o,rU]),hn.o⟩
theorem z2l (a1 a2:Option Addr)(c1 c2:Nat)(w:World) :
 Calls Tryz.prog 73 #[.slice a1 0 c1,.slice a2 0 c2] w fun e w'=>e=.returned (.int .i64 0)∧w=w':=by
 go_enter func73,ntmps73
 go_wp2;refine wp_loop_rounds 1 ?_;rw[rounds_succ];go_wp2;go_ret
 exact⟨rfl,rfl⟩
theorem nk (v1 v2:Value)(a b:Nat)(hl:(ae a).length≤1000000)(w:World)(h1:Rd .u32 w v1 (ae a))(h2:Rd .u32 w v2 (ae b)) :
 CR 73 #[v1,v2] w (.int .i64 (cmpN a b)):=by
 by_cases hne:(ae a).length=(ae b).length
 · by_cases h0:(ae a).length=0
   · have ha:a=0:=by have:=aB a;rw[List.length_eq_zero_iff.1 h0]at this;exact this.symm
     have hb:b=0:=by have:=aB b;rw[List.length_eq_zero_iff.1 (show(ae b).length=0 by omega)]at this;exact this.symm
     obtain⟨a1,c1,rfl⟩:=aX h1;obtain⟨a2,c2,rfl⟩:=aX h2;rw[← hne,h0];exact(z2l a1 a2 c1 c2 w).mono fun e w' ⟨g1,g2⟩=>⟨by rw[g1,ha,hb,rU],g2▸Below.refl _ _⟩
   · obtain⟨b1,o1,c1,rfl,_,_,_,r1⟩:=dN h1 (by omega)
     obtain⟨b2,o2,c2,rfl,_,_,_,r2⟩:=dN h2 (by omega);have:=z2k b1 o1 c1 b2 o2 c2 (ae a) (ae b) hne (aT a) (aT b) hl w r1 r2;rw[aB,aB]at this;rw[← hne];exact this
 · obtain⟨a1,c1,rfl⟩:=aX h1
   obtain⟨a2,c2,rfl⟩:=aX h2;refine(z4e a1 a2 _ _ c1 c2 hne w).mono fun e w' ⟨g1,g2⟩=>⟨?_,g2▸Below.refl _ _⟩;rw[g1];refine dK ?_;rcases Nat.lt_or_ge (ae a).length (ae b).length with h|h
   · rw[gq h,gq (eD h)]
   · have h':(ae b).length<(ae a).length:=by omega
     rw[iH h',iH (eD h')]
end Go.Proofs.YtkiklcbhglpooaaGreatDoor
open Go.Lib (hid)
namespace Go.Gb
def GJ (p2 p1 p0 v1 v0 g r:Nat):Prop:=(r<BB∧GI p2 p1 p0 v1 v0 g r)∨(BB≤r∧r<2*BB∧GOK p2 p1 p0 v1 v0 g)
theorem GJ.start {p2 p1 p0 v1 v0:Nat}(hv1:500000000≤v1)(hv1':v1<BB)(hp1:p1<BB)(hp0:p0<BB)(hp2:p2≤v1):GJ p2 p1 p0 v1 v0 ((p2*BB+p1) / v1) ((p2*BB+p1)%v1):=by
 have h:=GI.start (v0:=v0) hv1 hv1' hp1 hp0 hp2;exact Or.inl ⟨h.2.2.1,h⟩
theorem GJ.bound {p2 p1 p0 v1 v0 g r:Nat}(h:GJ p2 p1 p0 v1 v0 g r):g≤BB+1∧r<2*BB:=by
 rcases h with⟨h1,h2⟩|⟨h1,h2,h3⟩
 · exact⟨h2.2.1,by have:=bN;omega⟩
 · exact⟨by have:=h3.1;omega,h2⟩
theorem GJ.great {p2 p1 p0 v1 v0 g r:Nat}(h:GJ p2 p1 p0 v1 v0 g r)(hr:BB≤r):GOK p2 p1 p0 v1 v0 g:=by
 rcases h with⟨h1,h2⟩|⟨h1,h2,h3⟩
 · omega
 · exact h3
theorem GJ.fin {p2 p1 p0 v1 v0 g r:Nat}(h:GJ p2 p1 p0 v1 v0 g r)(hg:g<BB)(ht:g*v0≤r*BB+p0):GOK p2 p1 p0 v1 v0 g:=by
 rcases h with⟨h1,h2⟩|⟨h1,h2,h3⟩
 · exact h2.fin hg ht
 · exact h3
theorem GJ.less {p2 p1 p0 v1 v0 g r:Nat}(h:GJ p2 p1 p0 v1 v0 g r)(hv1:v1<BB)(hv0:v0<BB)(hp1:p1<BB)(hp2:p2≤v1)(hr:r<BB)(ht:BB≤g∨r*BB+p0<g*v0):0<g∧GJ p2 p1 p0 v1 v0 (g-1) (r+v1):=by
 rcases h with⟨h1,h2⟩|⟨h1,h2,h3⟩
 · have hgp:0<g:=by
    rcases Nat.eq_zero_or_pos g with h0|h0
    · rcases ht with ht|ht
      · have:=bN;omega
      · rw[h0,Nat.zero_mul]at ht;omega
    · exact h0
   have hne:∀ q,q<BB→q*(v1*BB+v0)≤(p2*BB+p1)*BB+p0→q≠g:=by
    rcases ht with ht|ht
    · exact GI.big ht
    · exact h2.test ht
   refine⟨hgp,?_⟩;by_cases hl:r+v1<BB
   · exact Or.inl ⟨hl,h2.less hne hgp hl⟩
   · exact Or.inr ⟨by omega,by omega,h2.last hv0 hp1 hp2 hne hgp (by omega)⟩
 · omega
theorem z3c {m:Nat}{D:List Nat}(h1:m≤D.length)(h2:D.length≤m+1):(D++[0,0]).take (m+1)=D++List.replicate (m+1-D.length) 0:=by
 rw[List.take_append,List.take_of_length_le h2];congr 1
 rcases Nat.lt_or_ge D.length (m+1) with h|h
 · rw[show m+1-D.length=1 by omega];rfl
 · rw[show m+1-D.length=0 by omega];rfl
end Go.Gb
namespace Go.Proofs.YtkiklcbhglpooaaGreatDoor
open Go.RowKit Go.Gb
theorem mD (v1 v2:Value)(a b:Nat)(hla:(ae a).length≤100000)(hlb:(ae b).length≤100000)(w:World)(h1:Rd .u32 w v1 (ae a))(h2:Rd .u32 w v2 (ae b)) :
 Calls Tryz.prog 79 #[v1,v2] w fun e w'=>∃ v,e=.returned v∧Gb.Own .u32 92 w.heap.size w' v (ae (a*b))∧Below w.heap.size w w':=by
 by_cases ha:a=0
 · subst ha
   rw[Nat.zero_mul,aS];rw[aS]at h1;obtain⟨p1,c1,rfl⟩:=aX h1;obtain⟨p2,c2,rfl⟩:=aX h2;clear h1 h2;simp only[List.length_nil];go_enter func79,ntmps79
   go_wp2;go_ret
   exact⟨_,rfl,Gb.Own.nil _ _ _ _,Below.refl _ _⟩
 · by_cases hb:b=0
   · subst hb
     rw[Nat.mul_zero,aS];rw[aS]at h2;obtain⟨p1,c1,rfl⟩:=aX h1;obtain⟨p2,c2,rfl⟩:=aX h2;have hp:0<(ae a).length:=List.length_pos_iff.2 (by rw[bP ha];simp);have d1:(((ae a).length:Int)==0)=false:=beq_eq_false_iff_ne.2 (by omega);clear h1 h2 ha;simp only[List.length_nil];generalize (ae a).length=n at *;go_enter func79,ntmps79
     go_wp2;go_ret
     exact⟨_,rfl,Gb.Own.nil _ _ _ _,Below.refl _ _⟩
   · have hpa:0<(ae a).length:=List.length_pos_iff.2 (by rw[bP ha];simp)
     have hpb:0<(ae b).length:=List.length_pos_iff.2 (by rw[bP hb];simp);obtain⟨b1,o1,c1,rfl,_,_,k1,r1⟩:=dN h1 hpa;obtain⟨b2,o2,c2,rfl,_,_,k2,r2⟩:=dN h2 hpb;have h:=xy b1 o1 c1 b2 o2 c2 (ae a) (ae b) hpa hpb hla hlb (aT a) (aT b) w k1 k2 r1 r2;rw[aB,aB]at h;exact h
theorem z1U (w:World)(u v:Value)(T:TypeId):∀ j x,[u,v][j]? = some x→(w.alloc (.cells #[u,v] T)).cell? ((⟨w.heap.size,0,none⟩:Addr).add j)=some x:=by
 intro j x hj
 match j,hj with
 | 0,hj=>simp at hj;subst hj;simp[Addr.add]
 | 1,hj=>simp at hj;subst hj;simp[Addr.add]
theorem z0c (v1 v2:Value)(a b:Nat)(hab:a<b)(hl:(ae a).length≤100000)(w:World)(h1:Rd .u32 w v1 (ae a))(h2:Rd .u32 w v2 (ae b)) :
 Calls Tryz.prog 126 #[v1,v2] w fun e w'=>∃ q r,e=.returned (.tuple #[q,r])∧Rd .u32 w' q (ae (a / b))∧Rd .u32 w' r (ae (a%b))∧Below w.heap.size w w':=by
 have hc:=nk v1 v2 a b (by omega) w h1 h2;rw[gq hab]at hc;have HC:=hid hc;have H1:=hid h1;rw[Nat.div_eq_of_lt hab,Nat.mod_eq_of_lt hab,aS];clear hc h1 h2;go_enter func126,ntmps126
 go_wp2_with fail
 refine HC.o.mono ?_;rintro e w1 ⟨rfl,hb1⟩;have w9:=hid hb1;clear hb1;go_wp2;go_ret2
 exact⟨_,v1,rfl,Or.inl ⟨rfl,rfl⟩,H1.o.below w9.o,w9.o⟩
theorem z0a (v1 v2:Value)(a b:Nat)(hab:b≤a)(hlb:(ae b).length=1)(hl:(ae a).length≤100000)(w:World)(h1:Rd .u32 w v1 (ae a))(h2:Rd .u32 w v2 (ae b)) :
 Calls Tryz.prog 126 #[v1,v2] w fun e w'=>∃ q r,e=.returned (.tuple #[q,r])∧Rd .u32 w' q (ae (a / b))∧Rd .u32 w' r (ae (a%b))∧Below w.heap.size w w':=by
 have hc:=nk v1 v2 a b (by omega) w h1 h2;have hcc:(0:Int)≤cmpN a b:=by unfold cmpN;split<;>(try split)<;>omega
 have hb0:b≠0:=by intro h;rw[h,aS]at hlb;simp at hlb
 have hbB:b<BB:=by have:=dG b;rw[hlb,Nat.pow_one]at this;exact this
 obtain⟨b2,o2,c2,rfl,_,_,k2,r2⟩:=dN h2 (by omega);have hcb:=r2 0 (by omega);have hd:(ae b).getD 0 0=b:=by rw[bP hb0,List.getD_cons_zero,Nat.mod_eq_of_lt hbB]
 rw[hd,Nat.add_zero]at hcb;rw[hlb]at hc ⊢;obtain⟨m,hm⟩:∃ m,m=a%b:=⟨_,rfl⟩;rw[← hm];have HMM:=hid hm;clear hm;generalize cmpN a b=cc at *;obtain ⟨HC,H1,HCB,Hb0,HbB⟩:=bD hc h1 hcb hb0 hbB;have k3:(b:Int)≤999999999:=by rw[aH]at hbB;omega
 clear hc h1 h2 r2 hd hlb hcb hb0 hbB hab;go_enter func126,ntmps126
 go_wp2_with fail
 refine HC.o.mono ?_;rintro e w1 ⟨rfl,hb1⟩;have w9:=hid hb1;have hcb1:=(hb1.cell (p:=⟨b2,o2,none⟩) k2).trans HCB.o;have hs:=qB v1 a b (by have:=Hb0.o;omega) HbB.o hl w1 (H1.o.below hb1);rw[← HMM.o]at hs;have HS:=hid hs;clear hs hb1;go_wp2_with fail
 refine HS.o.mono ?_;rintro e w2 ⟨q,rfl,hq,hb2⟩;have wm:=hbt w9 hb2;have HQ:=hid hq;have HM:=hid (xz m (by have h9:=HbB.o;rw[aH]at h9;have:=Nat.mod_lt a (show 0<b by have:=Hb0.o;omega);have:=HMM.o;omega) w2);clear hb2 hq hcb1;go_wp2_with fail
 refine HM.o.mono ?_;rintro e w3 ⟨r,rfl,hr,hb3⟩;have wo:=hbt wm hb3;have HR:=hid hr.rd;have HQ3:=hid ((HQ.o.below hb3).rd);clear hb3 hr;go_wp2;go_ret2
 exact⟨q,r,rfl,HQ3.o,HR.o,wo.o⟩
