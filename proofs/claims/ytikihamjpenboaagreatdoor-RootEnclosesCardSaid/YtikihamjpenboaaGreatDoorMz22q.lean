/- texts -/
import Derived.Test.YtikihamjpenboaaGreatDoorMz21q
open Go.Proofs.Tryz
set_option maxRecDepth 100000
set_option maxHeartbeats 20000000
open Go.Lib (hid)
namespace Go.Gb
def RdI (xs vs:List Nat) (t:Nat) (ys:List Nat) (i C b:Nat):Prop:=SubI xs vs t ys i (C+b)∧C≤999999999∧b≤1
theorem RdI.start (xs vs:List Nat)(t:Nat):RdI xs vs t [] 0 0 0:=⟨SubI.start xs vs t,by omega,by omega⟩
theorem RdI.keep {xs vs ys:List Nat}{t i C b x v:Nat}(h:RdI xs vs t ys i C b)(ex:xs.getD i 0=x)(ev:vs.getD i 0=v)(ht:t<BB)(hv:v<BB)(hx:x<BB)(hle:(t*v+C)%BB+b≤x):RdI xs vs t (ys++[x-((t*v+C)%BB+b)]) (i+1) ((t*v+C) / BB) 0:=by
 obtain⟨h1,h2,h3⟩:=h;have hq:=(kX (t:=t) (v:=v) (c:=C) ht hv (by rw[aG];omega)).2;have hd:=Nat.div_add_mod (t*v+C) BB;have hqB:(t*v+C) / BB+1≤BB:=by rw[aG]at hq ⊢;omega
 refine⟨h1.next (by omega) (by omega) ?_,hq,by omega⟩;rw[ex,ev];generalize t*v=p at *;generalize (p+C) / BB=q at *;generalize (p+C)%BB=lo at *;rw[Nat.add_zero];omega
theorem RdI.borrow {xs vs ys:List Nat}{t i C b x v:Nat}(h:RdI xs vs t ys i C b)(ex:xs.getD i 0=x)(ev:vs.getD i 0=v)(ht:t<BB)(hv:v<BB)(hlt:x<(t*v+C)%BB+b):RdI xs vs t (ys++[x+BB-((t*v+C)%BB+b)]) (i+1) ((t*v+C) / BB) 1:=by
 obtain⟨h1,h2,h3⟩:=h;have hq:=(kX (t:=t) (v:=v) (c:=C) ht hv (by rw[aG];omega)).2;have hd:=Nat.div_add_mod (t*v+C) BB;have hm:=Nat.mod_lt (t*v+C) bE;have hqB:(t*v+C) / BB+1≤BB:=by rw[aG]at hq ⊢;omega
 refine⟨h1.next (by omega) (by omega) ?_,hq,by omega⟩;rw[ex,ev];generalize t*v=p at *;generalize (p+C) / BB=q at *;generalize (p+C)%BB=lo at *;rw[Nat.mul_add];omega
end Go.Gb
namespace Go.Proofs.YtikihamjpenboaaGreatDoor
open Go.RowKit Go.Gb
theorem wH {w w':World}{row:Option Nat}(h:w.grownBy w' row)(n:Nat):w.grownBy (w'.drewN n) row:=⟨h.os,h.tape,h.output,h.size,h.block⟩
theorem xn (g cap b2 o2 c2 n t A U:Nat)(pre xs post vs:List Nat)(hA:pre.length=A)(hU:(pre++(xs++post)).length=U)(hxl:xs.length=n+1)(hvl:vs.length=n)(hn:n≤100000)(hA9:A≤100000)(ht:t<BB)(hx:∀ x∈xs,x<BB)(hv:∀ v∈vs,v<BB)
 (hV0:0<ai vs) (hVn:ai vs<BB^n) (hg1:ai xs / ai vs≤t) (hg2:t≤ai xs / ai vs+1) (w:World)
 (hb:Row4 w g cap (pre++(xs++post))) (hb2:b2<w.heap.size) (hne:b2≠g) (hcv:∀ i,i<n→w.cell? ⟨b2,o2+i,none⟩=some (.int .u32 ((vs.getD i 0:Nat):Int))) :
 Calls Tryz.prog 128 #[.slice (some ⟨g,0,none⟩) U cap,.slice (some ⟨b2,o2,none⟩) n c2,.int .i64 (A:Int),.int .u64 (t:Int)] w fun e w' =>
  ∃ zs:List Nat,e=.returned (.int .u32 ((ai xs / ai vs:Nat):Int))∧zs.length=n+1∧(∀ z∈zs,z<BB)∧ai zs=ai xs%ai vs∧Row4 w' g cap (pre++(zs++post))∧w.grownBy w' (some g):=by
 obtain ⟨HX,HV,HB,HCV,HT,HXL,HVL,HA,HG⟩:=bX hx hv hb hcv ht hxl hvl hA (And.intro hg1 hg2);have HV0:=hid (And.intro hV0 hVn);have hUn:A+n<U:=by rw[← hU,← hA,List.length_append,List.length_append,hxl];omega
 have ht9:(t:Int)≤999999999:=by rw[aG]at ht;omega
 clear hx hv hb hcv ht hxl hvl hA hU hg1 hg2 hV0 hVn;go_enter func128,ntmps128
 go_wp2;go_loopw [10,11,12] (fun bb cc ii wr=>∃ (i C b:Nat) (ys:List Nat),i≤n∧ii=.int .i64 i∧cc=.int .u64 (C:Int)∧bb=.int .i64 (b:Int)∧Hid (RdI xs vs t ys i C b)∧Hid (Row4 wr g cap (pre++(ys++(xs.drop i++post))))∧Hid (w.grownBy wr (some g))) (fun _ _ ii _=>n-(intOf ii).toNat)
 case atStart=>exact⟨0,0,0,[],Nat.zero_le _,rfl,rfl,rfl,RdI.start xs vs t,HB,World.grownBy.refl _ _⟩
 case round =>
  obtain⟨i,C,b,ys,hi,rfl,rfl,rfl,hI,hB,hG⟩:=hrel;have hdr:=fA (xs:=xs) (i:=i) (by have:=HXL.o;omega);have hxw:=HX.o _ (aV (xs:=xs) (i:=i) (by have:=HXL.o;omega));have hB':=hB.o;rw[hdr,List.cons_append]at hB';have hyl:ys.length=i:=hI.o.1.1;have hcell:=hB'.cell (i:=pre.length+ys.length) (by simp);have hfree:=hB'.free (pre.length+ys.length);rw[oz]at hcell;rw[hyl,HA.o]at hcell hfree;have hC9:(C:Int)≤999999999:=by have:=hI.o.2.1;omega
  have hb1:(b:Int)≤1:=by have:=hI.o.2.2;omega
  have i3:(n:Int)≤100000:=by omega
  have i4:(A:Int)≤100000:=by omega
  have i5:(A:Int)+(n:Int)<(U:Int):=by omega
  have hi9:(i:Int)≤(n:Int):=by omega
  by_cases hlt:i<n
  · have hcv:=(iZ hG.o hb2 hne).trans (HCV.o i hlt)
    have hvw:=HV.o _ (aV (xs:=vs) (i:=i) (by have:=HVL.o;omega));have hpc:=kX (c:=C) HT.o hvw (by rw[aG];omega)
    have hset:∀ (z:Nat),Row4 (wr.setCell ⟨g,A+i,none⟩ (.int .u32 (z:Int))) g cap (pre++(ys++(z :: (xs.drop (i+1)++post)))):=by
        intro z;have:=hB'.set (pre.length+ys.length) z;rwa [ji,hyl,HA.o]at this
    have hkp:=fun x v (e1:xs.getD i 0=x) (e2:vs.getD i 0=v)=>hI.o.keep e1 e2 HT.o;have hbw:=fun x v (e1:xs.getD i 0=x) (e2:vs.getD i 0=v)=>hI.o.borrow e1 e2 HT.o;have HKP:=hid (hkp _ _ rfl rfl hvw hxw);have si:=hid (hbw _ _ rfl rfl hvw);have HSET:=hid hset;clear hkp hbw hset hB' hdr hyl hB hI;generalize xs.getD i 0=x at *;generalize vs.getD i 0=v at *;obtain⟨p,hp⟩:∃ p:Nat,p=t*v:=⟨_,rfl⟩;have e1:(t:Int)*(v:Int)=(p:Int):=by rw[hp];exact(Int.natCast_mul _ _).symm
    rw[← hp]at hpc HKP si;have w1:IntKind.u64.wrap (p:Int)=(p:Int):=IntWalk.u64_in _ (by omega);obtain⟨q,hq⟩:∃ q:Nat,q=(p+C) / BB:=⟨_,rfl⟩;obtain⟨lo,hlo⟩:∃ lo:Nat,lo=(p+C)%BB:=⟨_,rfl⟩;rw[← hq]at hpc HKP si;rw[← hlo]at HKP si;have hmod:((p:Int)+(C:Int))%1000000000=(lo:Int):=by rw[hlo,aG];omega
    have hdiv:((p:Int)+(C:Int)) / 1000000000=(q:Int):=by rw[hq,aG];omega
    have hlo2:(lo:Int)≤999999999:=by rw[aG]at hlo;omega
    have hx2:(x:Int)≤999999999:=by rw[aG]at hxw;omega
    have hv2:(v:Int)≤999999999:=by rw[aG]at hvw;omega
    have hp2:(p:Int)≤999999998000000001:=by omega
    have hq2:(q:Int)≤999999999:=by omega
    have i1:(i:Int)<(n:Int):=by omega
    clear hp hq hlo hpc hvw hxw;by_cases hle:lo+b≤x
    · obtain⟨y,hy⟩:∃ y:Nat,y=x-(lo+b):=⟨_,rfl⟩
      have hval:(x:Int)-(lo:Int)-(b:Int)=(y:Int):=by omega
      have hneg:decide ((y:Int)<0)=false:=decide_eq_false (by omega);have hy9:(y:Int)≤999999999:=by omega
      have HN:=hid (show RdI xs vs t (ys++[y]) (i+1) q 0 by rw[hy];exact HKP.o hle);obtain ⟨HS,HGG⟩:=aD (HSET.o y) (Lib.grownBy_setB hG.o (A+i) (.int .u32 (y:Int)));clear HKP si HSET hy hle hG;go_wp2;go_roundw
      case rel=>exact⟨i+1,q,0,ys++[y],by omega,by go_num,df hdiv,rfl,HN,by rw[List.append_assoc];exact HS,HGG⟩
      case measure=>simp[intOf];omega
    · obtain⟨y,hy⟩:∃ y:Nat,y=x+BB-(lo+b):=⟨_,rfl⟩
      have hval:(x:Int)-(lo:Int)-(b:Int)+1000000000=(y:Int):=by rw[aG]at hy;omega
      have hneg:(x:Int)-(lo:Int)-(b:Int)<0:=by omega
      have hy9:(y:Int)≤999999999:=by omega
      have HN:=hid (show RdI xs vs t (ys++[y]) (i+1) q 1 by rw[hy];exact si.o (by omega));obtain ⟨HS,HGG⟩:=aD (HSET.o y) (Lib.grownBy_setB hG.o (A+i) (.int .u32 (y:Int)));clear HKP si HSET hy hle hG;go_wp2;go_roundw
      case rel=>exact⟨i+1,q,1,ys++[y],by omega,by go_num,df hdiv,rfl,HN,by rw[List.append_assoc];exact HS,HGG⟩
      case measure=>simp[intOf];omega
  · have hi':i=n:=by omega
    subst hi';have hd0:xs.drop (i+1)=[]:=List.drop_of_length_le (by have:=HXL.o;omega);rw[hd0,List.nil_append]at hB';have hlast:=fun(k y:Nat) (h2:y<BB) h3=>hI.o.1.last (y:=y) (k:=k) HVL.o HXL.o h2 h3
    have hset:∀ (z:Nat),Row4 (wr.setCell ⟨g,A+i,none⟩ (.int .u32 (z:Int))) g cap (pre++(ys++(z :: post))):=by
        intro z;have:=hB'.set (pre.length+ys.length) z;rwa [ji,hyl,HA.o]at this
    obtain ⟨HL,HSET,Hyl⟩:=ak hlast hset hyl;have hCb:=hI.o.2;have d1:decide ((i:Int)<(i:Int))=false:=decide_eq_false (by omega);clear hlast hset hB' hdr hyl hB hI hd0 hi9;generalize xs.getD i 0=x at *;have hx2:(x:Int)≤999999999:=by rw[aG]at hxw;omega
    by_cases hle:C+b≤x
    · obtain⟨y,hy⟩:∃ y:Nat,y=x-(C+b):=⟨_,rfl⟩
      have hval:(x:Int)-(C:Int)-(b:Int)=(y:Int):=by omega
      have hy0:(0:Int)≤(y:Int):=by omega
      have hy9:(y:Int)≤999999999:=by omega
      obtain⟨f1,f2,f3⟩:=HL.o 0 y (by rw[aG];omega) (by rw[hy];omega);obtain⟨s1,s2⟩:=qj HV0.o.1 HG.o.1 f3 rfl;obtain ⟨HF,HS1,HS,HGG⟩:=aM (And.intro f1 (And.intro f2 s2)) s1 (HSET.o y) (Lib.grownBy_setB hG.o (A+i) (.int .u32 (y:Int)));clear HL HSET hy hle hG f1 f2 f3 s1 s2 hCb hxw;go_wp2;go_ret
      exact⟨ys++[y],dM (by rw[← HS1.o]),HF.o.1,HF.o.2.1,HF.o.2.2,by rw[List.append_assoc];exact HS.o,HGG.o⟩
    · obtain⟨y,hy⟩:∃ y:Nat,y=x+BB-(C+b):=⟨_,rfl⟩
      have hval:(x:Int)-(C:Int)-(b:Int)+1000000000=(y:Int):=by rw[aG]at hy;omega
      have hneg:decide (0≤(x:Int)-(C:Int)-(b:Int))=false:=decide_eq_false (by omega);have hneg2:decide ((b:Int)≤(x:Int)-(C:Int))=false:=decide_eq_false (by omega);have hy9:(y:Int)≤999999999:=by omega
      obtain⟨f1,f2,f3⟩:=HL.o 1 y (by rw[aG];omega) (by rw[hy];rw[aG]at *;omega);obtain⟨s1,s2,s3⟩:=q9 HV0.o.1 HG.o.1 HG.o.2 (bP f2 (Nat.le_of_eq f1)) f3;obtain ⟨HF,HS1⟩:=aD (And.intro f1 f2) (And.intro s1 (And.intro s2 s3))
      have HS0:=hid (show Row4 (wr.setCell ⟨g,A+i,none⟩ (.int .u32 (y:Int))) g cap (pre++([]++((ys++[y]).drop 0++post))) by
       have:=HSET.o y
       rw[List.nil_append,List.drop_zero,List.append_assoc];exact this)
      have HG0:=hid (Lib.grownBy_setB hG.o (A+i) (.int .u32 (y:Int)));have ht1:(1:Int)≤(t:Int):=by omega
      have hfr:=hfree;clear HL HSET hy hle hG f1 f2 f3 s1 s2 s3 hCb hxw;go_wp2;clear hcell;generalize wr.setCell ⟨g,A+i,none⟩ (.int .u32 (y:Int))=wx at *;go_loopw [16,17] (fun cc ii wr=>∃ (k c:Nat) (zs:List Nat),k≤i∧ii=.int .i64 k∧cc=.int .u32 (c:Int)∧Hid (dw (ys++[y]) vs zs k c)∧Hid (Row4 wr g cap (pre++(zs++((ys++[y]).drop k++post))))∧Hid (w.grownBy wr (some g))) (fun _ ii _=>i-(intOf ii).toNat)
      case atStart=>exact⟨0,0,[],Nat.zero_le _,rfl,rfl,dw.start _ _,HS0,HG0⟩
      case round =>
       clear HS0 HG0 hfr hfree;obtain⟨k,c,zs,hk,rfl,rfl,hI,hB,hG⟩:=hrel;have hdr:=fA (xs:=ys++[y]) (i:=k) (by have:=HF.o.1;omega);have hyw:=HF.o.2 _ (aV (xs:=ys++[y]) (i:=k) (by have:=HF.o.1;omega));have hB':=hB.o;rw[hdr,List.cons_append]at hB';have hzl:zs.length=k:=hI.o.1;have hcell:=hB'.cell (i:=pre.length+zs.length) (by simp);have hfree:=hB'.free (pre.length+zs.length);rw[oz]at hcell;rw[hzl,HA.o]at hcell hfree;have hc1:(c:Int)≤1:=by have:=hI.o.2.2.1;omega
       by_cases hlk:k<i
       · have hcv:=(iZ hG.o hb2 hne).trans (HCV.o k hlk)
         have hvw:=HV.o _ (aV (xs:=vs) (i:=k) (by have:=HVL.o;omega));have HN:=hid (hI.o.step hyw hvw)
         have hset:∀ (n z:Nat),Row4 ((wr.drewN n).setCell ⟨g,A+k,none⟩ (.int .u32 (z:Int))) g cap (pre++(zs++(z :: ((ys++[y]).drop (k+1)++post)))):=by
          intro n z;have:=(hB'.drewN n).set (pre.length+zs.length) z;rwa [ji,hzl,HA.o]at this
         have HSET:=hid hset;clear hset hB' hdr hzl hB hI;generalize (ys++[y]).getD k 0=x2 at *;generalize vs.getD k 0=v at *;obtain⟨lo,hlo⟩:∃ lo:Nat,lo=(x2+v+c)%BB:=⟨_,rfl⟩;obtain⟨q,hq⟩:∃ q:Nat,q=(x2+v+c) / BB:=⟨_,rfl⟩;rw[← hq,← hlo]at HN;have hmod:((x2:Int)+(v:Int)+(c:Int))%1000000000=(lo:Int):=by rw[hlo,aG];omega
         have hdiv:((x2:Int)+(v:Int)+(c:Int)) / 1000000000=(q:Int):=by rw[hq,aG];omega
         have hx3:(x2:Int)≤999999999:=by rw[aG]at hyw;omega
         have hv3:(v:Int)≤999999999:=by rw[aG]at hvw;omega
         have j1:(k:Int)<(i:Int):=by omega
         have HGG:=hid (fun n=>Lib.grownBy_setB (wH hG.o n) (A+k) (.int .u32 (lo:Int)));have HS:=hid (fun n=>HSET.o n lo);clear hlo hq hyw hvw HSET hG;go_wp2;go_quiet (fail)
         obtain ⟨HS2,HG2⟩:=aD (HS.o nq) (HGG.o nq);have hf2:(wr.drewN nq).frozen? ⟨g,A+k,none⟩=false:=hfree;have hc2':(wr.drewN nq).cell? ⟨g,A+k,none⟩=some (.int .u32 (x2:Int)):=hcell;clear HS HGG hcell hfree hcv;generalize wr.drewN nq=w2 at *;go_wp2;go_roundw
         case rel=>exact⟨k+1,q,zs++[lo],by omega,by go_num,df (by omega),HN,by rw[List.append_assoc];exact HS2,HG2⟩
         case measure=>simp[intOf];omega
       · have hk':k=i:=by omega
         subst hk';have hyv:ai (ys++[y])=ai ((ys++[y]).take k)+BB^k*(ys++[y]).getD k 0:=by rw[← aJ,List.take_of_length_le (by have:=HF.o.1;omega)]
         have hgy:(ys++[y]).getD k 0=y:=by simp[List.getD,Hyl.o]
         obtain⟨f1,f2,f3,f4⟩:=hI.o;rw[List.take_of_length_le (show vs.length≤k by have:=HVL.o;omega)]at f4;have hzlt:ai zs<BB^k:=bP f2 (Nat.le_of_eq f1);have hrlt:ai xs%ai vs<BB^k:=Nat.lt_trans (Nat.mod_lt _ HV0.o.1) HV0.o.2;have s3:=HS1.o.2.2;rw[hyv,hgy,Nat.pow_succ]at s3;have hz:=uZ hzlt hrlt f4.symm s3;have ht:=z3Q hzlt hrlt f4.symm s3;have hd0:(ys++[y]).drop (k+1)=[]:=List.drop_of_length_le (by have:=HF.o.1;omega);rw[hd0,List.nil_append,hgy]at hB';rw[hgy]at hcell
         have hset:Row4 (wr.setCell ⟨g,A+k,none⟩ (.int .u32 ((0:Nat):Int))) g cap (pre++(zs++(0 :: post))):=by
          have:=hB'.set (pre.length+zs.length) 0;rwa [ji,hzl,HA.o]at this
         have hmod:((y:Int)+(c:Int))%1000000000=0:=by rw[aG]at ht;omega
         obtain ⟨HSET,HGG⟩:=aD hset (Lib.grownBy_setB hG.o (A+k) (.int .u32 ((0:Nat):Int)));have HZ:=hid (show ai (zs++[0])=ai xs%ai vs by rw[dK,Nat.mul_zero,Nat.add_zero];exact hz);have HZL:=hid (show(zs++[0]).length=k+1 by simp[f1]);have HZB:=hid (nL f2 bE);have d2:decide ((k:Int)<(k:Int))=false:=decide_eq_false (by omega);clear hset hB' hdr hzl hB hI hyv hgy f1 f2 f3 f4 hzlt hrlt s3 hz ht hd0 hyw hG;go_wp2;go_ret
         exact⟨zs++[0],dM (by have:=HS1.o.1;omega),HZL.o,HZB.o,HZ.o,by rw[List.append_assoc];exact HSET.o,HGG.o⟩
open Go.Lib (hid)
theorem z3Y (a1 a2:Option Addr)(n m c1 c2:Nat)(h:n≠m)(w:World) :
 Calls Tryz.prog 58 #[.slice a1 n c1,.slice a2 m c2] w fun e w'=>e=.returned (.int .i64 (cmpN n m))∧w=w':=by
 have hb:((n:Int) != (m:Int))=true:=bne_iff_ne.2 (by omega);by_cases hlt:n<m
 · have HF:=hid (gK hlt)
   go_enter func58,ntmps58
   go_wp2;go_ret
   exact⟨dM HF.o.symm,rfl⟩
 · have HF:=hid (iO (show m<n by omega))
   go_enter func58,ntmps58
   go_wp2;go_ret
   exact⟨dM HF.o.symm,rfl⟩
theorem z2h (b1 o1 c1 b2 o2 c2:Nat)(xs ys:List Nat)(hxy:xs.length=ys.length)(hx:∀ x∈xs,x<BB)(hy:∀ y∈ys,y<BB)(hl:xs.length≤1000000)(w:World)
 (hcx:∀ i,i<xs.length→w.cell? ⟨b1,o1+i,none⟩=some (.int .u32 ((xs.getD i 0:Nat):Int)))
 (hcy:∀ i,i<ys.length→w.cell? ⟨b2,o2+i,none⟩=some (.int .u32 ((ys.getD i 0:Nat):Int))) :
 CR 58 #[.slice (some ⟨b1,o1,none⟩) xs.length c1,.slice (some ⟨b2,o2,none⟩) xs.length c2] w (.int .i64 (cmpN (ai xs) (ai ys))):=by
 obtain ⟨HXY,HX,HY,HCX,HCY⟩:=bY hxy hx hy hcx hcy;clear hxy hx hy hcx hcy;have hb:((xs.length:Int) != (xs.length:Int))=false:=by simp
 go_enter func58,ntmps58
 go_wp2;go_loopw [5] (fun ii wr=>∃ z:Int,-1≤z∧z<xs.length∧ii=.int .i64 z∧Hid (z2l xs ys (z+1).toNat)∧Hid (Below w.heap.size w wr)) (fun ii _=>(intOf ii+1).toNat)
 case atStart=>exact⟨(xs.length:Int)-1,by omega,by omega,rfl,fun j h1 h2=>absurd h1 (by omega),Below.refl _ _⟩
 case round =>
  obtain⟨z,hz1',hz8,rfl,he,hn⟩:=hrel;by_cases hz:0≤z
  · obtain⟨j,rfl⟩:=Int.eq_ofNat_of_zero_le hz
    have hb1:=World.block_lt_of_cell? _ _ (HCX.o j (by omega));have hb2:=World.block_lt_of_cell? _ _ (HCY.o j (by have:=HXY.o;omega));have hcx:=(hn.o.cell (p:=⟨b1,o1+j,none⟩) hb1).trans (HCX.o j (by omega));have hcy:=(hn.o.cell (p:=⟨b2,o2+j,none⟩) hb2).trans (HCY.o j (by have:=HXY.o;omega));have he':=he.o;rw[show((j:Int)+1).toNat=j+1 by omega]at he';have HE:=hid he';clear he' he;have hjl:=hid (show j<xs.length by omega);have hL:xs.getD j 0<ys.getD j 0→ai xs<ai ys:=fun h=>jX HXY.o hjl.o HX.o (fun k h1 h2=>HE.o k (by omega) h2) h;have hG:ys.getD j 0<xs.getD j 0→ai ys<ai xs:=fun h=>jX HXY.o.symm (by have:=HXY.o;have:=hjl.o;omega) HY.o (fun k h1 h2=>(HE.o k (by omega) (by have:=HXY.o;omega)).symm) h;obtain ⟨HL,HG⟩:=aD hL hG
    have HEQ:=hid (show xs.getD j 0=ys.getD j 0→z2l xs ys j from fun h k h1 h2=>by
        by_cases hk:k=j
        · subst hk;exact h
        · exact HE.o k (by omega) h2)
    clear hL hG HE;generalize xs.getD j 0=x at *;generalize ys.getD j 0=y at *;clear hb1 hb2;have i1:(0:Int)≤(j:Int):=by omega
    have i2:(j:Int)<(xs.length:Int):=by omega
    by_cases h1:x<y
    · have HF:=hid (gK (HL.o h1))
      go_wp2;go_quiet (fail)
      have HN2:=hid (below_drewN' hn.o nq);go_wp2;go_ret
      exact⟨dM HF.o.symm,HN2.o⟩
    · by_cases h2:y<x
      · have HF:=hid (iO (HG.o h2))
        go_wp2;go_quiet (fail)
        go_wp2;have hn2:=below_drewN' hn.o nq;have hcx2:(wr.drewN nq).cell? ⟨b1,o1+j,none⟩=some (.int .u32 (x:Int)):=hcx;have hcy2:(wr.drewN nq).cell? ⟨b2,o2+j,none⟩=some (.int .u32 (y:Int)):=hcy;have HN2:=hid hn2;clear hcx hcy hn2;generalize wr.drewN nq=w2 at *;go_quiet (fail)
        have HN3:=hid (below_drewN' HN2.o nq);go_wp2;go_ret
        exact⟨dM HF.o.symm,HN3.o⟩
      · have HF:=hid (HEQ.o (by omega))
        go_wp2;go_quiet (fail)
        go_wp2;have hn2:=below_drewN' hn.o nq;have hcx2:(wr.drewN nq).cell? ⟨b1,o1+j,none⟩=some (.int .u32 (x:Int)):=hcx;have hcy2:(wr.drewN nq).cell? ⟨b2,o2+j,none⟩=some (.int .u32 (y:Int)):=hcy;have HN2:=hid hn2;clear hcx hcy hn2;generalize wr.drewN nq=w2 at *;go_quiet (fail)
        have HN3:=hid (below_drewN' HN2.o nq);go_wp2;go_roundw
        case rel=>exact⟨(j:Int)-1,by omega,by omega,rfl,by rw[show((j:Int)-1+1).toNat=j by omega];exact HF,HN3⟩
        case measure=>simp[intOf]
  · have hz0':(z+1).toNat=0:=by omega
    have he':=he.o;rw[hz0']at he';have heq:=hid (oD HXY.o (fun j hj=>he' j (by omega) hj));clear he' hz0';go_wp2;go_ret
    exact⟨dM (by rw[heq.o,sV]),hn.o⟩
theorem z2i (a1 a2:Option Addr)(c1 c2:Nat)(w:World) :
 Calls Tryz.prog 58 #[.slice a1 0 c1,.slice a2 0 c2] w fun e w'=>e=.returned (.int .i64 0)∧w=w':=by
 go_enter func58,ntmps58
 go_wp2;refine wp_loop_rounds 1 ?_;rw[rounds_succ];go_wp2;go_ret
 exact⟨rfl,rfl⟩
theorem lT (v1 v2:Value)(a b:Nat)(hl:(ae a).length≤1000000)(w:World)(h1:Rd .u32 w v1 (ae a))(h2:Rd .u32 w v2 (ae b)) :
 CR 58 #[v1,v2] w (.int .i64 (cmpN a b)):=by
 by_cases hne:(ae a).length=(ae b).length
 · by_cases h0:(ae a).length=0
   · have ha:a=0:=by have:=ax a;rw[List.length_eq_zero_iff.1 h0]at this;exact this.symm
     have hb:b=0:=by have:=ax b;rw[List.length_eq_zero_iff.1 (show(ae b).length=0 by omega)]at this;exact this.symm
     obtain⟨a1,c1,rfl⟩:=aT h1;obtain⟨a2,c2,rfl⟩:=aT h2;rw[← hne,h0];exact(z2i a1 a2 c1 c2 w).mono fun e w' ⟨g1,g2⟩=>⟨by rw[g1,ha,hb,sV],g2▸Below.refl _ _⟩
   · obtain⟨b1,o1,c1,rfl,_,_,_,r1⟩:=dN h1 (by omega)
     obtain⟨b2,o2,c2,rfl,_,_,_,r2⟩:=dN h2 (by omega);have:=z2h b1 o1 c1 b2 o2 c2 (ae a) (ae b) hne (aQ a) (aQ b) hl w r1 r2;rw[ax,ax]at this;rw[← hne];exact this
 · obtain⟨a1,c1,rfl⟩:=aT h1
   obtain⟨a2,c2,rfl⟩:=aT h2;refine(z3Y a1 a2 _ _ c1 c2 hne w).mono fun e w' ⟨g1,g2⟩=>⟨?_,g2▸Below.refl _ _⟩;rw[g1];refine dM ?_;rcases Nat.lt_or_ge (ae a).length (ae b).length with h|h
   · rw[gK h,gK (eP h)]
   · have h':(ae b).length<(ae a).length:=by omega
     rw[iO h',iO (eP h')]
end Go.Proofs.YtikihamjpenboaaGreatDoor
open Go.Lib (hid)
namespace Go.Gb
def GJ (p2 p1 p0 v1 v0 g r:Nat):Prop:=(r<BB∧GI p2 p1 p0 v1 v0 g r)∨(BB≤r∧r<2*BB∧GOK p2 p1 p0 v1 v0 g)
theorem GJ.start {p2 p1 p0 v1 v0:Nat}(hv1:500000000≤v1)(hv1':v1<BB)(hp1:p1<BB)(hp0:p0<BB)(hp2:p2≤v1):GJ p2 p1 p0 v1 v0 ((p2*BB+p1) / v1) ((p2*BB+p1)%v1):=by
 have h:=GI.start (v0:=v0) hv1 hv1' hp1 hp0 hp2;exact Or.inl ⟨h.2.2.1,h⟩
theorem GJ.bound {p2 p1 p0 v1 v0 g r:Nat}(h:GJ p2 p1 p0 v1 v0 g r):g≤BB+1∧r<2*BB:=by
 rcases h with⟨h1,h2⟩|⟨h1,h2,h3⟩
 · exact⟨h2.2.1,by have:=bE;omega⟩
 · exact⟨by have:=h3.1;omega,h2⟩
theorem GJ.great {p2 p1 p0 v1 v0 g r:Nat}(h:GJ p2 p1 p0 v1 v0 g r)(hr:BB≤r):GOK p2 p1 p0 v1 v0 g:=by
 rcases h with⟨h1,h2⟩|⟨h1,h2,h3⟩
 · omega
 · exact h3
theorem GJ.fin {p2 p1 p0 v1 v0 g r:Nat}(h:GJ p2 p1 p0 v1 v0 g r)(hg:g<BB)(ht:g*v0≤r*BB+p0):GOK p2 p1 p0 v1 v0 g:=by
 rcases h with⟨h1,h2⟩|⟨h1,h2,h3⟩
 · exact h2.fin hg ht
 · exact h3
theorem GJ.less {p2 p1 p0 v1 v0 g r:Nat}(h:GJ p2 p1 p0 v1 v0 g r)(hv1:v1<BB)(hv0:v0<BB)(hp1:p1<BB)(hp2:p2≤v1)(hr:r<BB)(ht:BB≤g∨r*BB+p0<g*v0):0<g∧GJ p2 p1 p0 v1 v0 (g-1) (r+v1):=by
 rcases h with⟨h1,h2⟩|⟨h1,h2,h3⟩
 · have hgp:0<g:=by
    rcases Nat.eq_zero_or_pos g with h0|h0
    · rcases ht with ht|ht
      · have:=bE;omega
      · rw[h0,Nat.zero_mul]at ht;omega
    · exact h0
   have hne:∀ q,q<BB→q*(v1*BB+v0)≤(p2*BB+p1)*BB+p0→q≠g:=by
    rcases ht with ht|ht
    · exact GI.big ht
    · exact h2.test ht
   refine⟨hgp,?_⟩;by_cases hl:r+v1<BB
   · exact Or.inl ⟨hl,h2.less hne hgp hl⟩
   · exact Or.inr ⟨by omega,by omega,h2.last hv0 hp1 hp2 hne hgp (by omega)⟩
 · omega
theorem z2U {m:Nat}{D:List Nat}(h1:m≤D.length)(h2:D.length≤m+1):(D++[0,0]).take (m+1)=D++List.replicate (m+1-D.length) 0:=by
 rw[List.take_append,List.take_of_length_le h2];congr 1
 rcases Nat.lt_or_ge D.length (m+1) with h|h
 · rw[show m+1-D.length=1 by omega];rfl
 · rw[show m+1-D.length=0 by omega];rfl
end Go.Gb
namespace Go.Proofs.YtikihamjpenboaaGreatDoor
open Go.RowKit Go.Gb
theorem jf (v1 v2:Value)(a b:Nat)(hla:(ae a).length≤100000)(hlb:(ae b).length≤100000)(w:World)(h1:Rd .u32 w v1 (ae a))(h2:Rd .u32 w v2 (ae b)) :
 Calls Tryz.prog 66 #[v1,v2] w fun e w'=>∃ v,e=.returned v∧Own .u32 89 w.heap.size w' v (ae (a*b))∧Below w.heap.size w w':=by
 by_cases ha:a=0
 · subst ha
   rw[Nat.zero_mul,aN];rw[aN]at h1;obtain⟨p1,c1,rfl⟩:=aT h1;obtain⟨p2,c2,rfl⟩:=aT h2;clear h1 h2;simp only[List.length_nil];go_enter func66,ntmps66
   go_wp2;go_ret
   exact⟨_,rfl,Own.nil _ _ _ _,Below.refl _ _⟩
 · by_cases hb:b=0
   · subst hb
     rw[Nat.mul_zero,aN];rw[aN]at h2;obtain⟨p1,c1,rfl⟩:=aT h1;obtain⟨p2,c2,rfl⟩:=aT h2;have hp:0<(ae a).length:=List.length_pos_iff.2 (by rw[bH ha];simp);have d1:(((ae a).length:Int)==0)=false:=beq_eq_false_iff_ne.2 (by omega);clear h1 h2 ha;simp only[List.length_nil];generalize (ae a).length=n at *;go_enter func66,ntmps66
     go_wp2;go_ret
     exact⟨_,rfl,Own.nil _ _ _ _,Below.refl _ _⟩
   · have hpa:0<(ae a).length:=List.length_pos_iff.2 (by rw[bH ha];simp)
     have hpb:0<(ae b).length:=List.length_pos_iff.2 (by rw[bH hb];simp);obtain⟨b1,o1,c1,rfl,_,_,k1,r1⟩:=dN h1 hpa;obtain⟨b2,o2,c2,rfl,_,_,k2,r2⟩:=dN h2 hpb;have h:=xq b1 o1 c1 b2 o2 c2 (ae a) (ae b) hpa hpb hla hlb (aQ a) (aQ b) w k1 k2 r1 r2;rw[ax,ax]at h;exact h
theorem z1Y (w:World)(u v:Value)(T:TypeId):∀ j x,[u,v][j]? = some x→(w.alloc (.cells #[u,v] T)).cell? ((⟨w.heap.size,0,none⟩:Addr).add j)=some x:=by
 intro j x hj
 match j,hj with
 | 0,hj=>simp at hj;subst hj;simp[Addr.add]
 | 1,hj=>simp at hj;subst hj;simp[Addr.add]
theorem z03 (v1 v2:Value)(a b:Nat)(hab:a<b)(hl:(ae a).length≤100000)(w:World)(h1:Rd .u32 w v1 (ae a))(h2:Rd .u32 w v2 (ae b)) :
 Calls Tryz.prog 94 #[v1,v2] w fun e w'=>∃ q r,e=.returned (.tuple #[q,r])∧Rd .u32 w' q (ae (a / b))∧Rd .u32 w' r (ae (a%b))∧Below w.heap.size w w':=by
 have hc:=lT v1 v2 a b (by omega) w h1 h2;rw[gK hab]at hc;have HC:=hid hc;have H1:=hid h1;rw[Nat.div_eq_of_lt hab,Nat.mod_eq_of_lt hab,aN];clear hc h1 h2;go_enter func94,ntmps94
 go_wp2_with fail
 refine HC.o.mono ?_;rintro e w1 ⟨rfl,hb1⟩;have ww:=hid hb1;clear hb1;go_wp2;go_ret2
 exact⟨_,v1,rfl,Or.inl ⟨rfl,rfl⟩,H1.o.below ww.o,ww.o⟩
theorem z01 (v1 v2:Value)(a b:Nat)(hab:b≤a)(hlb:(ae b).length=1)(hl:(ae a).length≤100000)(w:World)(h1:Rd .u32 w v1 (ae a))(h2:Rd .u32 w v2 (ae b)) :
 Calls Tryz.prog 94 #[v1,v2] w fun e w'=>∃ q r,e=.returned (.tuple #[q,r])∧Rd .u32 w' q (ae (a / b))∧Rd .u32 w' r (ae (a%b))∧Below w.heap.size w w':=by
 have hc:=lT v1 v2 a b (by omega) w h1 h2;have hcc:(0:Int)≤cmpN a b:=by unfold cmpN;split<;>(try split)<;>omega
 have hb0:b≠0:=by intro h;rw[h,aN]at hlb;simp at hlb
 have hbB:b<BB:=by have:=dI b;rw[hlb,Nat.pow_one]at this;exact this
 obtain⟨b2,o2,c2,rfl,_,_,k2,r2⟩:=dN h2 (by omega);have hcb:=r2 0 (by omega);have hd:(ae b).getD 0 0=b:=by rw[bH hb0,List.getD_cons_zero,Nat.mod_eq_of_lt hbB]
 rw[hd,Nat.add_zero]at hcb;rw[hlb]at hc ⊢;obtain⟨m,hm⟩:∃ m,m=a%b:=⟨_,rfl⟩;rw[← hm];have HMM:=hid hm;clear hm;generalize cmpN a b=cc at *;obtain ⟨HC,H1,HCB,Hb0,HbB⟩:=bY hc h1 hcb hb0 hbB;have k3:(b:Int)≤999999999:=by rw[aG]at hbB;omega
 clear hc h1 h2 r2 hd hlb hcb hb0 hbB hab;go_enter func94,ntmps94
 go_wp2_with fail
 refine HC.o.mono ?_;rintro e w1 ⟨rfl,hb1⟩;have ww:=hid hb1;have hcb1:=(hb1.cell (p:=⟨b2,o2,none⟩) k2).trans HCB.o;have hs:=qM v1 a b (by have:=Hb0.o;omega) HbB.o hl w1 (H1.o.below hb1);rw[← HMM.o]at hs;have HS:=hid hs;clear hs hb1;go_wp2_with fail
 refine HS.o.mono ?_;rintro e w2 ⟨q,rfl,hq,hb2⟩;have u6:=hbt ww hb2;have HQ:=hid hq;have HM:=hid (mV m (by have h9:=HbB.o;rw[aG]at h9;have:=Nat.mod_lt a (show 0<b by have:=Hb0.o;omega);have:=HMM.o;omega) w2);clear hb2 hq hcb1;go_wp2_with fail
 refine HM.o.mono ?_;rintro e w3 ⟨r,rfl,hr,hb3⟩;have w9:=hbt u6 hb3;have HR:=hid hr.rd;have HQ3:=hid ((HQ.o.below hb3).rd);clear hb3 hr;go_wp2;go_ret2
 exact⟨q,r,rfl,HQ3.o,HR.o,w9.o⟩
open Go.Lib (hid)
theorem Blk4.grown {w w':World}{g:Nat}{zs:List Nat}(h:Blk4 w g zs){row:Option Nat}(hg:w.grownBy w' row)(hne:row≠some g):Blk4 w' g zs:=by
 unfold Blk4 at *
 rw[hg.block g (Array.getElem?_eq_some_iff.1 h).1 (fun e=>hne e.symm)];exact h
theorem z02 (v1 v2:Value)(a b:Nat)(hlb:2≤(ae b).length)(hab:b≤a)(hl:(ae a).length≤50000)(w:World)(h1:Rd .u32 w v1 (ae a))(h2:Rd .u32 w v2 (ae b)) :
 Calls Tryz.prog 94 #[v1,v2] w fun e w'=>∃ q r,e=.returned (.tuple #[q,r])∧Rd .u32 w' q (ae (a / b))∧Rd .u32 w' r (ae (a%b))∧Below w.heap.size w w':=by
 obtain⟨i0,hi,hz0,hz1,hz2⟩:=info_parts Tryz.info89;have hc:=lT v1 v2 a b (by omega) w h1 h2;have hcc:(0:Int)≤cmpN a b:=by unfold cmpN;split<;>(try split)<;>omega
 obtain⟨n,hn⟩:∃ n,n=(ae b).length:=⟨_,rfl⟩;obtain⟨m,hm⟩:∃ m,m=(ae a).length:=⟨_,rfl⟩;have hb0:b≠0:=by intro h;rw[h,aN]at hlb;simp at hlb
 have ha0:a≠0:=by omega
 have hnm:n≤m:=by rw[hn,hm];exact aL hab
 obtain⟨y,hy⟩:∃ y,y=(ae b).getD (n-1) 0:=⟨_,rfl⟩;obtain⟨s,hs⟩:∃ s,s=BB / (y+1):=⟨_,rfl⟩;obtain⟨y1,y2,s1,s2,hVl,hVlt,hVtop,hblo⟩:=scaled hb0 hn.symm hy hs;obtain⟨hK0,hRl⟩:=KI.start (a:=a) (b:=b) (s:=s) (m:=m) (n:=n) hm.symm (by omega) hnm hblo (by omega) s2;obtain⟨b1,o1,c1,rfl,_,_,k1,r1⟩:=dN h1 (by omega);obtain⟨b2,o2,c2,rfl,_,_,k2,r2⟩:=dN h2 (by omega);obtain⟨N1,hN1⟩:∃ N1,N1=n-1:=⟨_,rfl⟩;have hcy:=r2 (n-1) (by omega);rw[← hy,← hN1]at hcy;have HN1:=hid hN1;have e3:(n:Int)-1=(N1:Int):=by omega
 have i9:(N1:Int)<(n:Int):=by omega
 rw[← hn,← hm]at hc;rw[← hn]at hlb ⊢;rw[← hm]at hl ⊢;generalize cmpN a b=cc at *;have hccd:decide (cc<0)=false:=decide_eq_false (by omega);obtain ⟨HC,H1,H2⟩:=ak hc h1 h2;rw[← hm]at H1;rw[← hn]at H2;obtain ⟨HCY,HK0,HRl,HVl,HVlt,HVtop,Hb0,Ha0,Hm⟩:=bX hcy hK0 hRl hVl hVlt hVtop hb0 ha0 hm;have Hn:=hid hn;have Hs2:=hid s2;have hdiv:(1000000000:Int) / ((y:Int)+1)=(s:Int):=by rw[hs,aG];rfl
 have hyz:(((y:Int)+1)==0)=false:=beq_eq_false_iff_ne.2 (by omega);have hy3:(y:Int)≤999999999:=by rw[aG]at y2;omega
 have hs3:(s:Int)≤999999999:=by rw[aG]at s2;omega
 have hs4:(1:Int)≤(s:Int):=by omega
 have hn1:((n:Int)==1)=false:=beq_eq_false_iff_ne.2 (by omega);have i1:(2:Int)≤(n:Int):=by omega
 have i2:(n:Int)≤(m:Int):=by omega
 have i3:(m:Int)≤50000:=by omega
 have HSd:=hid (Go.Gb.digs_one (s:=s) (by omega) s2);clear hc h1 h2 hK0 hRl hVl hVlt hVtop hb0 ha0 hm hn hs hy y1 y2 s1 s2 hblo hab r1 r2 hcy hN1;go_enter func94,ntmps94
 go_wp2_with fail
 refine HC.o.mono ?_;rintro e w1 ⟨rfl,hb1⟩;have ww:=hid hb1;have hcy1:=(hb1.cell (p:=⟨b2,o2+N1,none⟩) k2).trans HCY.o;clear hb1 HC;go_wp2_with fail
 refine(mV s (by omega) _).mono ?_;rintro e w2 ⟨vs,rfl,hos,hb2⟩;rw[HSd.o]at hos;obtain⟨bs,os_,cs,hvs,_,_,ks,rs⟩:=dN hos.rd (by simp);have hvs':vs=.slice (some ⟨bs,os_,none⟩) 1 cs:=hvs;subst hvs';have u6:=hbt ww hb2;have hos':=hos.rd;rw[← HSd.o]at hos';have HT:=hid (jf (.slice (some ⟨b2,o2,none⟩) n c2) (.slice (some ⟨bs,os_,none⟩) 1 cs) b s (by have:=Hn.o;omega) (by rw[HSd.o];simp) w2 (H2.o.below u6.o) hos');have hcs0:=rs 0 (by simp);rw[List.getD_cons_zero,Nat.add_zero]at hcs0;have HOS:=hid hos';have HCS:=hid hcs0;clear hos hos' hb2 hcy1 hvs rs hcs0;go_wp2_with fail
 refine HT.o.mono ?_;rintro e w3 ⟨vV,rfl,hoV,hb3⟩;have hVl:=HVl.o;obtain⟨bV,oV,cV,rfl,_,_,kV,rV⟩:=dN hoV.rd (by omega);rw[hVl]at rV;rw[hVl];have w9:=hbt u6 hb3;have HRV:=hid rV;have HCS3:=hid ((hb3.cell (p:=⟨bs,os_,none⟩) ks).trans HCS.o);have ks3:=Nat.lt_of_lt_of_le ks hb3.size;have hT2:=jf (.slice (some ⟨b1,o1,none⟩) m c1) (.slice (some ⟨bs,os_,none⟩) 1 cs) a s (by have:=Hm.o;omega) (by rw[HSd.o];simp) (w3.alloc (.cells #[] 89)) ((H1.o.below w9.o).below ((Below.refl _ _).alloc (Nat.le_refl _) _)) ((HOS.o.below hb3).below ((Below.refl _ _).alloc (Nat.le_refl _) _));have HT2:=hid hT2;clear hoV hb3 hVl rV HT hT2 u6 ww ks HCS HOS;go_wp2_with fail
 refine HT2.o.mono ?_;rintro e w4 ⟨vM,rfl,hoM,hb4⟩
 have hRp:0<(ae (a*s)).length:=by
  have:a*s≠0:=Nat.mul_ne_zero Ha0.o (by omega);rw[bH this];simp
 obtain⟨bM,oM,cM,rfl,_,_,kM,rM⟩:=dN hoM.rd hRp;obtain⟨L,hL⟩:∃ L,L=(ae (a*s)).length:=⟨_,rfl⟩;have hLm:L≤m+1:=by rw[hL];exact HRl.o
 have hLm2:m≤L:=by rw[hL,Hm.o];exact aL (Nat.le_mul_of_pos_right a (by omega))
 have hcells:∀ j u,(cls .u32 (ae (a*s)))[j]? = some u→w4.cell? ((⟨bM,oM,none⟩:Addr).add j)=some u:=by
  intro j u hj
  have hjl:j<(ae (a*s)).length:=by
   have:=(List.getElem?_eq_some_iff.1 hj).1;rwa [eQ]at this
  rw[Lib.add_plain,rM j hjl,← hj,jM hjl]
 have hN0:(w3.alloc (.cells #[] 89)).ownsRow w3.heap.size 89 1 (.slice (some ⟨w3.heap.size,0,none⟩) 0 0) 0 []:=(Blk4.alloc (w:=w3) [] #[] rfl).own (B:=w3.heap.size) (Nat.le_refl _) (by unfold maxLen;simp);have hN4:w4.ownsRow w3.heap.size 89 1 (.slice (some ⟨w3.heap.size,0,none⟩) 0 0) 0 []:=Own.below (k:=.u32) (xs:=[]) hN0 hb4;have HCE:=hid hcells;have HL:=hid hL;have hbw3:Below w3.heap.size w3 w4:=((Below.refl w3.heap.size w3).alloc (Nat.le_refl _) (.cells #[] 89)).trans (hb4.mono (by simp));have HW4:=hid hbw3;rw[← hL];clear hoM hb4 hcells hN0 hbw3 HT2 kM rM hRp hL;go_wp2_with (at_builtin;refine wpList_append_own _ rfl _ _ 47 rfl w3.heap.size 89 i0 (.int .u32 0) 1 4 underlying47 hi hz0 hz1 hz2 rfl (by decide) _ _ _ rfl hN4 ⟨bM,oM,none⟩ L cM (cls .u32 (ae (a*s))) rfl (by rw[eQ,← HL.o,Nat.mul_one]) HCE.o (by intro u hu;obtain⟨q,_,rfl⟩:=List.mem_map.1 hu;rfl) (by unfold maxLen;omega) (by omega) (by have:=HW4.o.size;omega) ?_)
 intro v5 w5 hown5 hgrow5 _;have HO5:=hid hown5;have HW5:=hid (HW4.o.grown hgrow5 HW4.o.size (fun k hk=>(hN4.lt k hk).1));clear hown5 hgrow5 hN4;go_wp2_with (at_builtin;refine wpList_append_own _ rfl _ _ 47 rfl w3.heap.size 89 i0 (.int .u32 0) 1 4 underlying47 hi hz0 hz1 hz2 rfl (by decide) _ _ _ rfl (HO5.o.alloc _) ⟨w5.heap.size,0,none⟩ 2 2 [.int .u32 0,.int .u32 0] rfl rfl (z1Y _ _ _ _) (by intro u hu;simp at hu;subst hu;rfl) (by unfold maxLen;omega) (by omega) (by have:=HW5.o.size;simp;omega) ?_)
 intro v6 w6 hown6 hgrow6 _
 have hO6:Own .u32 89 w3.heap.size w6 v6 (ae (a*s)++[0,0]):=by
  unfold Own
  rw[bW,List.length_append,← HL.o];exact hown6
 have HW6:=hid ((HW5.o.alloc HW5.o.size _).grown hgrow6 (by have:=HW5.o.size;simp;omega) (fun k hk=>(HO5.o.lt k hk).1));obtain⟨g,cap,rfl,hg,hcm,hR⟩:=Row4.of_own hO6 (by simp);have hlen2:(ae (a*s)++[0,0]).length=L+2:=by rw[List.length_append,← HL.o];rfl
 have hBu:∀ z∈ae (a*s)++[0,0],z<BB:=by
  intro z hz;rcases List.mem_append.1 hz with hz|hz
  · exact aQ _ z hz
  · simp at hz;rw[hz];exact bE
 have hle:=hR.le;have hrt:=mg g 0 cap (ae (a*s)++[0,0]) hBu hle hcm w6 (fun i hi=>by rw[Nat.zero_add];exact hR.cell hi);have hwv:ai (ae (a*s)++[0,0])=a*s:=by have:=fu (ae (a*s)) 2;rw[ax]at this;exact this
 rw[hwv,← HL.o,hlen2]at hrt;rw[hlen2]at hle;rw[hlen2];have HRT:=hid hrt;have HR:=hid (hR.take (m+1) (by rw[hlen2];omega));have Hg:=hid hg;have Hcm:=hid hcm;obtain⟨M,hM⟩:∃ M:Nat,M=m+1:=⟨_,rfl⟩;have hmx:max ((m:Int)+1) (L:Int)=(M:Int):=by omega
 have hMc:(M:Int)≤(cap:Int):=by omega
 have hML:(M:Int)≤(L:Int)+2:=by omega
 have HM:=hid hM;clear hown6 hgrow6 HO5 hO6 hR hlen2 hBu hrt hwv hg hcm HCE HW4 HW5;go_wp2_with fail
 refine HRT.o.mono ?_;rintro e w' ⟨rfl,rfl⟩;obtain⟨d,hd⟩:∃ d,d=m-n:=⟨_,rfl⟩;obtain⟨D,hD⟩:∃ D:Nat,D=d+1:=⟨_,rfl⟩;have hdI:(M:Int)-(n:Int)=(D:Int):=by omega
 have Hd:=hid hd;have HD:=hid hD;have i4:(D:Int)≤50001:=by omega
 have i5:(M:Int)≤50001:=by omega
 clear hd hD hM;go_wp2_with (at_make;refine wpList_make_full _ rfl _ _ 47 rfl w6.heap.size 89 i0 (.int .u32 0) 1 underlying47 hi hz0 hz1 _ _ _ _ D rfl rfl (by omega) (by omega) ?b4 ?b5 (Nat.le_refl _) ?_)
 case b4=>rw[hz2];omega
 case b5=>unfold maxLen;omega
 intro w7 hown7 hgrow7;have HO:=hid (show Blk4 w7 w6.heap.size (List.replicate D 0) from Blk4.of_made hown7 (gL _));have hb67:Below w6.heap.size w6 w7:=(Below.refl w6.heap.size w6).grown hgrow7 (Nat.le_refl _) (fun k h=>by cases h);have hR7:=HR.o.below hb67;rw[z2U (by rw[← HL.o];exact hLm2) (by rw[← HL.o];exact hLm)]at hR7;have HR7:=hid hR7;have HW7:=hid (HW6.o.trans (hb67.mono HW6.o.size));have hgO6:=HR.o.lt;obtain⟨gO,hgO⟩:∃ gO,gO=w6.heap.size:=⟨_,rfl⟩;obtain⟨B3,hB3⟩:∃ B3,B3=w3.heap.size:=⟨_,rfl⟩;have HGO:=hid (show g≠gO∧B3≤gO∧B3≤g by have:=Hg.o;have:=HW6.o.size;omega);clear hown7 hgrow7 hb67 hR7 HR HW6 HRT hmx hMc hML hgO6 HL hLm hLm2;go_wp2;rw[← hgO];rw[← hgO]at HO;rw[← hB3]at HW7 ks3 kV;clear hgO;obtain ⟨HkV,Hks,HB3e⟩:=ak kV ks3 hB3;clear kV ks3 hB3;go_loopw [13] (fun jj wr=>∃ (z:Int) (us os:List Nat),-1≤z∧z+1≤D∧jj=.int .i64 z∧Hid (KI (a*s) (b*s) (m+1) us os (z+1).toNat)∧Hid ((z+1).toNat+os.length=D)∧Hid (Row4 wr g cap us)∧Hid (Blk4 wr gO (List.replicate (z+1).toNat 0++os))∧Hid (Below B3 w3 wr)) (fun jj _=>(intOf jj+1).toNat)
 case atStart =>
  refine⟨(D:Int)-1,_,[],by omega,by omega,rfl,?_,?_,HR7,?_,HW7⟩
  · have h:=HK0.o
    rw[← Hd.o,← HD.o]at h;rw[show((D:Int)-1+1).toNat=D by omega];exact h
  · exact(by simp:(((D:Int)-1+1).toNat+([]:List Nat).length=D))
  · have h:=HO.o
    rw[show((D:Int)-1+1).toNat=D by omega,List.append_nil];exact h
 case round =>
  clear HR7 HO HW7 HK0;obtain⟨z,us,os,hz1',hz8,rfl,hI,hOl,hB,hBO,hN⟩:=hrel;by_cases hz:0≤z
  · obtain⟨j,rfl⟩:=Int.eq_ofNat_of_zero_le hz
    have hI':=hI.o;have hBO':=hBO.o;have hOl':=hOl.o;rw[show((j:Int)+1).toNat=j+1 by omega]at hI' hBO' hOl';have hjl:j+n<m+1:=by have:=Hd.o;have:=HD.o;omega
    have hul:=hI'.1;have hvw:∀ v∈ae (b*s),v<BB:=aQ _;have hVv:=ax (b*s);obtain⟨z1,z2,z3⟩:=hI'.high (n:=n) HVlt.o hjl;have hxl:((us.drop j).take (n+1)).length=n+1:=by simp;omega
    have hxw:∀ x∈(us.drop j).take (n+1),x<BB:=fun x hx=>hI'.2.1 x (List.mem_of_mem_drop (List.mem_of_mem_take hx));have htop:=z4f (by omega) hxl HVl.o hvw (by rw[hVv];exact z3);rw[iJ (by omega)]at htop;obtain⟨J1,hJ1⟩:∃ J1,J1=j+(n-1):=⟨_,rfl⟩;obtain⟨J2,hJ2⟩:∃ J2,J2=j+(n-2):=⟨_,rfl⟩;have hN1:=HN1.o;obtain⟨N2,hN2⟩:∃ N2,N2=n-2:=⟨_,rfl⟩;obtain⟨p2,hp2⟩:∃ p,p=us.getD (j+n) 0:=⟨_,rfl⟩;obtain⟨p1,hp1⟩:∃ p,p=us.getD J1 0:=⟨_,rfl⟩;obtain⟨p0,hp0⟩:∃ p,p=us.getD J2 0:=⟨_,rfl⟩;obtain⟨q1,hq1⟩:∃ q,q=(ae (b*s)).getD N1 0:=⟨_,rfl⟩;obtain⟨q0,hq0⟩:∃ q,q=(ae (b*s)).getD N2 0:=⟨_,rfl⟩;have hVtop:=HVtop.o;rw[← hN1,← hq1]at hVtop;rw[← hN1,← hp2,← hq1]at htop;have u1:=hI'.2.1 _ (aV (xs:=us) (i:=J1) (by omega));have u0:=hI'.2.1 _ (aV (xs:=us) (i:=J2) (by omega));have t1:=hvw _ (aV (xs:=ae (b*s)) (i:=N1) (by have:=HVl.o;omega));have t0:=hvw _ (aV (xs:=ae (b*s)) (i:=N2) (by have:=HVl.o;omega));rw[← hp1]at u1;rw[← hp0]at u0;rw[← hq1]at t1;rw[← hq0]at t0
    have hcf:∀ W:World,Row4 W g cap us→Below B3 w3 W→W.cell? ⟨g,j+n,none⟩=some (.int .u32 (p2:Int))∧W.cell? ⟨g,J1,none⟩=some (.int .u32 (p1:Int))∧W.cell? ⟨g,J2,none⟩=some (.int .u32 (p0:Int))∧W.cell? ⟨bV,oV+N1,none⟩=some (.int .u32 (q1:Int))∧W.cell? ⟨bV,oV+N2,none⟩=some (.int .u32 (q0:Int)):=by
        intro W h1 h2;refine⟨?_,?_,?_,?_,?_⟩
        · rw[hp2];exact h1.cell (by omega)
        · rw[hp1];exact h1.cell (by omega)
        · rw[hp0];exact h1.cell (by omega)
        · rw[hq1];exact(h2.cell (p:=⟨bV,oV+N1,none⟩) HkV.o).trans (HRV.o N1 (by omega))
        · rw[hq0];exact(h2.cell (p:=⟨bV,oV+N2,none⟩) HkV.o).trans (HRV.o N2 (by omega))
    have HCF:=hid hcf;have HGS:=hid (GJ.start (v0:=q0) hVtop t1 u1 u0 htop);have HQ:=hid (show((p2:Int)*1000000000+(p1:Int)) / (q1:Int)=(((p2*BB+p1) / q1:Nat):Int) by rw[aG];rfl);have HMd:=hid (show((p2:Int)*1000000000+(p1:Int))%(q1:Int)=(((p2*BB+p1)%q1:Nat):Int) by rw[aG];rfl);obtain ⟨Hlt,HI',HBO',HOl',HX,HZ,HP,HJ,Hjl⟩:=bX (And.intro t1 (And.intro t0 (And.intro u1 htop))) hI' hBO' hOl' (And.intro hxl hxw) (And.intro z1 (And.intro z2 z3)) (And.intro hp2 (And.intro hp1 (And.intro hp0 (And.intro hq1 hq0)))) (And.intro hJ1 (And.intro hJ2 (And.intro hN1 (And.intro hN2 hjl)))) hjl;have hvz:((q1:Int)==0)=false:=beq_eq_false_iff_ne.2 (by omega);have k0:(500000000:Int)≤(q1:Int):=by omega
    have x1:(q1:Int)≤999999999:=by rw[aG]at t1;omega
    have x2:(q0:Int)≤999999999:=by rw[aG]at t0;omega
    have x3:(p2:Int)≤999999999:=by omega
    have x4:(p1:Int)≤999999999:=by rw[aG]at u1;omega
    have x5:(p0:Int)≤999999999:=by rw[aG]at u0;omega
    have e1:(j:Int)+(n:Int)-1=(J1:Int):=by omega
    have e2:(j:Int)+(n:Int)-2=(J2:Int):=by omega
    have e4:(n:Int)-2=(N2:Int):=by omega
    have i6:(j:Int)+(n:Int)<(M:Int):=by have:=HM.o;omega
    have i7:(J1:Int)<(M:Int):=by omega
    have i8:(J2:Int)<(M:Int):=by omega
    have i10:(N2:Int)<(n:Int):=by omega
    have i11:(j:Int)<(D:Int):=by omega
    obtain⟨c1',c2',c3',c4',c5'⟩:=hcf wr hB.o hN.o;clear hcf hI' hBO' hOl' hxl hxw z1 z2 z3 htop u1 u0 t1 t0 hvw hVv hul hI hBO hOl hVtop hp2 hp1 hp0 hq1 hq0 hJ1 hJ2 hN1 hN2 hjl;go_wp2;go_quiet (fail)
    have u6:=hid (hB.o.drewN nq);have HBO2:=hid (show Blk4 (wr.drewN nq) gO (List.replicate (j+1) 0++os) from HBO'.o);have HN2:=hid (below_drewN' hN.o nq);clear c1' c2' c3' c4' c5' hB hN HBO';generalize wr.drewN nq=w2 at *;obtain⟨c1',c2',c3',c4',c5'⟩:=HCF.o w2 u6.o HN2.o;go_wp2;go_quiet (fail)
    have w9:=hid (u6.o.drewN nq);have HBO3:=hid (show Blk4 (w2.drewN nq) gO (List.replicate (j+1) 0++os) from HBO2.o);have HN3:=hid (below_drewN' HN2.o nq);clear c1' c2' c3' c4' c5' u6 HN2 HBO2;generalize w2.drewN nq=w3' at *;go_wp2;obtain⟨wo,rfl⟩:∃ wo:World,wo=wr:=⟨_,rfl⟩;go_loopw [15,16] (fun gg rr wr=>∃ (G R:Nat),gg=.int .u64 (G:Int)∧rr=.int .u64 (R:Int)∧Hid (GJ p2 p1 p0 q1 q0 G R)∧Hid (Row4 wr g cap us)∧Hid (Blk4 wr gO (List.replicate (j+1) 0++os))∧Hid (Below B3 w3 wr)) (fun gg _ _=>(intOf gg).toNat)
    case atStart=>exact⟨(p2*BB+p1) / q1,(p2*BB+p1)%q1,by rw[HQ.o],by rw[HMd.o],HGS,w9,HBO3,HN3⟩
    case round =>
        clear w9 HBO3 HN3 HGS;obtain⟨G,R,rfl,rfl,hG,hB,hBO,hN⟩:=hrel;obtain⟨c1',c2',c3',c4',c5'⟩:=HCF.o wr hB.o hN.o;have hG9:(G:Int)≤1000000001:=by have:=hG.o.bound.1;have:=aG;omega
        have hR9:(R:Int)≤1999999999:=by have:=hG.o.bound.2;have:=aG;omega
        by_cases hcont:R<BB∧(BB≤G∨R*BB+p0<G*q0)
        · obtain⟨hr,hg⟩:=hcont
          obtain⟨hG0,hG2⟩:=hG.o.less Hlt.o.1 Hlt.o.2.1 Hlt.o.2.2.1 Hlt.o.2.2.2 hr hg;have HG2:=hid hG2;have hr':(R:Int)<1000000000:=by rw[aG]at hr;omega
          have hG1:(1:Int)≤(G:Int):=by omega
          by_cases hbig:(1000000000:Int)≤(G:Int)
          · clear hr hg hG hG2
            go_wp2;go_quiet (fail)
            have wu:=hid (hB.o.drewN nq);have HBO4:=hid (show Blk4 (wr.drewN nq) gO (List.replicate (j+1) 0++os) from hBO.o);have HN4:=hid (below_drewN' hN.o nq);clear c1' c2' c3' c4' c5' hB hN hBO;generalize wr.drewN nq=w4' at *;obtain⟨c1',c2',c3',c4',c5'⟩:=HCF.o w4' wu.o HN4.o;go_wp2;go_roundw
            case rel=>exact⟨G-1,R+q1,df (by omega),df (by omega),HG2,wu,HBO4,HN4⟩
            case measure=>simp[intOf];omega
          · obtain⟨pr,hpr⟩:∃ p:Nat,p=G*q0:=⟨_,rfl⟩
            have e9:(G:Int)*(q0:Int)=(pr:Int):=by rw[hpr];exact(Int.natCast_mul _ _).symm
            have hle:pr≤1000000000*1000000000:=by rw[hpr];exact Nat.mul_le_mul (by omega) (by omega)
            have w1:IntKind.u64.wrap (pr:Int)=(pr:Int):=IntWalk.u64_in _ (by omega);have hbig':decide ((1000000000:Int)≤(G:Int))=false:=decide_eq_false hbig;have ht:(R:Int)*1000000000+(p0:Int)<(pr:Int):=by rw[aG]at hg;rw[← hpr]at hg;omega
            clear hr hg hG hG2 hle hpr;go_wp2;go_quiet (fail)
            have wu:=hid (hB.o.drewN nq);have HBO4:=hid (show Blk4 (wr.drewN nq) gO (List.replicate (j+1) 0++os) from hBO.o);have HN4:=hid (below_drewN' hN.o nq);clear c1' c2' c3' c4' c5' hB hN hBO;generalize wr.drewN nq=w4' at *;obtain⟨c1',c2',c3',c4',c5'⟩:=HCF.o w4' wu.o HN4.o;go_wp2;go_roundw
            case rel=>exact⟨G-1,R+q1,df (by omega),df (by omega),HG2,wu,HBO4,HN4⟩
            case measure=>simp[intOf];omega
        · have hgok:GOK p2 p1 p0 q1 q0 G:=by
           by_cases hr:R<BB
           · exact hG.o.fin (by omega) (by omega)
           · exact hG.o.great (by omega)
          obtain⟨hxl,hxw⟩:=HX.o;obtain⟨hp2,hp1,hp0,hq1,hq0⟩:=HP.o;obtain⟨hJ1,hJ2,hN1,hN2,hjl⟩:=HJ.o
          have hgt:ai ((us.drop j).take (n+1)) / (b*s)≤G∧G≤ai ((us.drop j).take (n+1)) / (b*s)+1:=by
           have h:=hgok;rw[hp2,hp1,hp0,hq1,hq0,hJ1,hJ2,hN1,hN2,← iJ (us:=us) (j:=j) (n:=n+1) (i:=n) (by omega),← iJ (us:=us) (j:=j) (n:=n+1) (i:=n-1) (by omega),← iJ (us:=us) (j:=j) (n:=n+1) (i:=n-2) (by omega)]at h;have h6:=uK (by omega) hxl HVl.o hxw (aQ _) (by rw[ax];exact HZ.o.2.2) (by have:=HVtop.o;omega) h;rw[ax]at h6;exact h6
          have hps:us=us.take j++((us.drop j).take (n+1)++us.drop (j+n+1)):=qB us j (n+1);have hpl:(us.take j).length=j:=by simp;have:=HI'.o.1;omega
          have hV0:0<b*s:=Nat.mul_pos (Nat.pos_of_ne_zero Hb0.o) (by omega);have hred:∀ W:World,Row4 W g cap us→Below B3 w3 W→_:=fun W hr hb=>xn g cap bV oV cV n G j M (us.take j) ((us.drop j).take (n+1)) (us.drop (j+n+1)) (ae (b*s)) hpl (by rw[← hps,HI'.o.1,HM.o]) hxl HVl.o (by omega) (by omega) hgok.1 hxw (aQ _) (by rw[ax];exact hV0) (by rw[ax];exact HVlt.o) (by rw[ax];exact hgt.1) (by rw[ax];exact hgt.2) W (by rw[← hps];exact hr) (Nat.lt_of_lt_of_le HkV.o (by have:=hb.size;have:=HB3e.o;omega)) (by have h9:=HGO.o.2.2;have:=HkV.o;omega) (fun i hi=>(hb.cell (p:=⟨bV,oV+i,none⟩) HkV.o).trans (HRV.o i hi));obtain⟨qq,hqq⟩:∃ q,q=ai ((us.drop j).take (n+1)) / (b*s):=⟨_,rfl⟩;simp only[ax]at hred;simp only[← hqq]at hred;have HRED:=hid hred;have HSTEP:=hid (fun zs hzl hz hzv=>HI'.o.step (zs:=zs) (q:=qq) (n:=n) hV0 HVlt.o hjl hzl hz hzv hqq);have hqB:qq<BB:=by rw[hqq,Nat.div_lt_iff_lt_mul hV0];exact HZ.o.2.2
          have hq9:(qq:Int)≤999999999:=by rw[aG]at hqB;omega
          have hcont':=hcont;rw[aG]at hcont';clear hred hps hpl hV0 hgt hgok hxl hxw hp2 hp1 hp0 hq1 hq0 hJ1 hJ2 hN1 hN2 hjl hqq hqB hG hcont;rcases Int.lt_or_le (R:Int) 1000000000 with hr|hr
          all_goals first
           | (have hr3:decide ((R:Int)<1000000000)=false:=decide_eq_false (by omega)
              clear hcont';go_wp2
              go_quiet (fail))
           | (obtain⟨pr,hpr⟩:∃ p:Nat,p=G*q0:=⟨_,rfl⟩
              have e9:(G:Int)*(q0:Int)=(pr:Int):=by rw[hpr];exact(Int.natCast_mul _ _).symm
              have hG4:G<1000000000:=by omega
              have hle:pr≤1000000000*1000000000:=by rw[hpr];exact Nat.mul_le_mul (by omega) (by omega)
              have w1:IntKind.u64.wrap (pr:Int)=(pr:Int):=IntWalk.u64_in _ (by omega);have hbig':decide ((1000000000:Int)≤(G:Int))=false:=decide_eq_false (by omega);have ht3:decide ((R:Int)*1000000000+(p0:Int)<(pr:Int))=false:=decide_eq_false (by rw[← hpr]at hcont';omega);clear hcont' hle hpr hG4;go_wp2
              go_quiet (fail))
          all_goals
           have wu:=hid (hB.o.drewN nq);have HBO4:=hid (show Blk4 (wr.drewN nq) gO (List.replicate (j+1) 0++os) from hBO.o);have HN4:=hid (below_drewN' hN.o nq);clear c1' c2' c3' c4' c5' hB hN hBO;generalize wr.drewN nq=w4' at *;have HR5:=hid (HRED.o w4' wu.o HN4.o);go_wp2_with fail
           refine HR5.o.mono ?_;rintro e w5 ⟨zs,rfl,hzl,hzB,hzv,hR5,hgr⟩;have hst:=HSTEP.o zs hzl hzB hzv;have hBO5:=HBO4.o.grown hgr (by intro e;cases e;exact HGO.o.1 rfl);rw[iV,List.append_assoc]at hBO5;have hc1:=hBO5.cell (i:=j) (by simp);have hf1:=hBO5.free j;have hs1:=hBO5.set j qq;rw[show(List.replicate j (0:Nat)++([0]++os):List Nat).getD j 0=0 by simp[List.getD]]at hc1;rw[show(List.replicate j (0:Nat)++([0]++os):List Nat).set j qq=List.replicate j 0++(qq :: os) by simp]at hs1;obtain ⟨HST,HS1⟩:=aD hst hs1;have sj:=hid (hR5.aside (k:=gO) (i:=j) (v:=.int .u32 (qq:Int)) HGO.o.1);have HN7:=hid ((HN4.o.grown hgr (by rw[HB3e.o];exact HN4.o.size) (fun k hk=>by cases hk;exact HGO.o.2.2)).setCell (p:=⟨gO,j,none⟩) HGO.o.2.1 (.int .u32 (qq:Int)));have HL7:=hid (show j+(qq :: os).length=D by have:=HOl'.o;simp;omega);clear hst hs1 hR5 hBO5 hzl hzB hzv hgr HRED HSTEP HR5 HBO4 wu HN4;go_wp2;go_roundw
           case rel=>exact⟨(j:Int)-1,_,qq :: os,by omega,by omega,rfl,by rw[show((j:Int)-1+1).toNat=j by omega];exact HST,by rw[show((j:Int)-1+1).toNat=j by omega];exact HL7,sj,by rw[show((j:Int)-1+1).toNat=j by omega];exact HS1,HN7⟩
           case measure=>simp[intOf]
  · have hz0':(z+1).toNat=0:=by omega
    have hI':=hI.o;have hBO':=hBO.o;have hOl':=hOl.o;rw[hz0']at hI' hBO' hOl';rw[List.replicate_zero,List.nil_append]at hBO';obtain⟨f1,f2⟩:=hI'.done;have hul:=hI'.1;have huw:=hI'.2.1;have how:=hI'.2.2.1;have hs0:0<s:=by omega
    have hlt:ai us<BB^n:=by
        have h9:=hI'.2.2.2.1;rw[List.drop_zero]at h9;exact Nat.lt_trans h9 HVlt.o
    rw[Nat.mul_mod_mul_right]at f1;rw[Nat.mul_div_mul_right _ _ hs0]at f2;have hnul:n≤us.length:=by rw[hul];omega
    have hsp:=dA us n hnul
    have hd0:ai (us.drop n)=0:=by
        rcases Nat.eq_zero_or_pos (ai (us.drop n)) with h|h
        · exact h
        · have:BB^n*1≤BB^n*ai (us.drop n):=Nat.mul_le_mul_left _ h
          omega
    have htk:ai (us.take n)=a%b*s:=by rw[hd0,Nat.mul_zero,Nat.add_zero]at hsp;rw[← hsp,f1]
    have hRt:=hB.o.take n hnul;have htl:(us.take n).length=n:=by simp;omega
    have hBt:∀ x∈us.take n,x<BB:=fun x hx=>huw x (List.mem_of_mem_take hx);have htr:=mg g 0 cap (us.take n) hBt hRt.le Hcm.o wr.drew (fun i hi=>by rw[Nat.zero_add];exact hRt.cell hi);have hown0:Own .u32 89 B3 wr.drew (.slice (some ⟨g,0,none⟩) (us.take n).length cap) (us.take n):=hRt.own HGO.o.2.2 Hcm.o;obtain⟨K,hK⟩:∃ K,K=(ae (a%b*s)).length:=⟨_,rfl⟩;have hKn:K≤(us.take n).length:=by rw[hK,← htk];exact bI (dZ _ hBt)
    have hdt:(us.take n).take K=ae (a%b*s):=by
        apply List.ext_getElem
        · rw[List.length_take,Nat.min_eq_left hKn,hK]
        · intro i h3 h4
          have h5:=mI hBt (i:=i) (by rw[htk];exact h4);rw[htk]at h5;have h6:=h5.1;rw[bO h4,bO h5.2]at h6;rw[h6];simp
    have hownK:=hown0.take K hKn;rw[hdt]at hownK;have hsm:=qM (.slice (some ⟨g,0,none⟩) K cap) (a%b*s) s hs0 Hs2.o (by rw[← hK];omega) wr.drew hownK.rd;rw[Nat.mul_div_cancel _ hs0]at hsm;rw[htk,htl,← hK]at htr;obtain ⟨HTR,HSM,HF2,HOW,HBO',HOl'⟩:=cz htr hsm f2 how hBO' hOl';have hcs:=(hN.o.cell (p:=⟨bs,os_,none⟩) Hks.o).trans HCS3.o;have hnc:(n:Int)≤(cap:Int):=by have:=hRt.le;omega
    clear hI' hBO' hOl' f1 f2 hul huw how hlt hnul hsp hd0 htk hRt htl hBt htr hown0 hK hKn hdt hownK hsm hz0' hI hOl hB hBO;go_wp2;go_region_with (first|(go_at_call 92;go_must (refine HTR.o.mono ?_;rintro e w' ⟨rfl,rfl⟩))|(go_at_call 127;go_must (refine HSM.o.mono ?_;rintro e w6 ⟨v,rfl,hown,hbel⟩)))
    all_goals
        have hB3s:B3≤wr.drew.heap.size:=by rw[HB3e.o];exact hN.o.size
        have hN6:Below w.heap.size w w6:=w9.o.trans (((hN.o.drew).trans (hbel.mono hB3s)).mono (by rw[HB3e.o];exact w9.o.size));have hBO6:=Blk4.below (w:=wr.drew) HBO'.o hbel;have hol:os.length=D:=by have:=HOl'.o;omega
        have hownO:=hBO6.own (B:=w.heap.size) (by have h8:=HGO.o.2.1;have h9:=w9.o.size;rw[HB3e.o]at h8;omega) (by unfold maxLen;omega);have htr:=ig 89 w.heap.size _ os HOW.o w6 hownO;rw[HF2.o,hol]at htr;obtain ⟨HTR2,HR,HN6⟩:=ak htr hown.rd hN6;clear hB3s hN6 hBO6 hol hownO htr hown hbel hN hcs;go_wp2_with fail
        refine HTR2.o.mono ?_;rintro e w7 ⟨q,rfl,hq,rfl⟩;have HQ:=hid hq.rd;clear hq;go_wp2;go_ret2
        exact⟨q,v,rfl,HQ.o,HR.o,HN6.o⟩
