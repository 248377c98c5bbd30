/- texts -/
import Derived.Test.YtbcnefnbkdbobaaGreatDoorMz15q
set_option maxRecDepth 100000
set_option maxHeartbeats 20000000
open Go.Lib (hid)
namespace Go.Gb
def RdI (xs vs:List Nat) (t:Nat) (ys:List Nat) (i C b:Nat):Prop:=SubI xs vs t ys i (C+b)∧C≤999999999∧b≤1
theorem RdI.start (xs vs:List Nat)(t:Nat):RdI xs vs t [] 0 0 0:=⟨SubI.start xs vs t,by omega,by omega⟩
theorem RdI.keep {xs vs ys:List Nat}{t i C b x v:Nat}(h:RdI xs vs t ys i C b)(ex:xs.getD i 0=x)(ev:vs.getD i 0=v)(ht:t<BB)(hv:v<BB)(hx:x<BB)(hle:(t*v+C)%BB+b≤x):RdI xs vs t (ys++[x-((t*v+C)%BB+b)]) (i+1) ((t*v+C) / BB) 0:=by
 obtain⟨h1,h2,h3⟩:=h;have hq:=(jN (t:=t) (v:=v) (c:=C) ht hv (by rw[aC];omega)).2;have hd:=Nat.div_add_mod (t*v+C) BB;have hqB:(t*v+C) / BB+1≤BB:=by rw[aC]at hq ⊢;omega
 refine⟨h1.next (by omega) (by omega) ?_,hq,by omega⟩;rw[ex,ev];generalize t*v=p at *;generalize (p+C) / BB=q at *;generalize (p+C)%BB=lo at *;rw[Nat.add_zero];omega
theorem RdI.borrow {xs vs ys:List Nat}{t i C b x v:Nat}(h:RdI xs vs t ys i C b)(ex:xs.getD i 0=x)(ev:vs.getD i 0=v)(ht:t<BB)(hv:v<BB)(hlt:x<(t*v+C)%BB+b):RdI xs vs t (ys++[x+BB-((t*v+C)%BB+b)]) (i+1) ((t*v+C) / BB) 1:=by
 obtain⟨h1,h2,h3⟩:=h;have hq:=(jN (t:=t) (v:=v) (c:=C) ht hv (by rw[aC];omega)).2;have hd:=Nat.div_add_mod (t*v+C) BB;have hm:=Nat.mod_lt (t*v+C) bD;have hqB:(t*v+C) / BB+1≤BB:=by rw[aC]at hq ⊢;omega
 refine⟨h1.next (by omega) (by omega) ?_,hq,by omega⟩;rw[ex,ev];generalize t*v=p at *;generalize (p+C) / BB=q at *;generalize (p+C)%BB=lo at *;rw[Nat.mul_add];omega
end Go.Gb
namespace Go.Proofs.YtbcnefnbkdbobaaGreatDoor
open Go.RowKit Go.Gb
theorem tK {w w':World}{row:Option Nat}(h:w.grownBy w' row)(n:Nat):w.grownBy (w'.drewN n) row:=⟨h.os,h.tape,h.output,h.size,h.block⟩
theorem uw (g cap b2 o2 c2 n t A U:Nat)(pre xs post vs:List Nat)(hA:pre.length=A)(hU:(pre++(xs++post)).length=U)(hxl:xs.length=n+1)(hvl:vs.length=n)(hn:n≤100000)(hA9:A≤100000)(ht:t<BB)(hx:∀ x∈xs,x<BB)(hv:∀ v∈vs,v<BB)
 (hV0:0<ag vs) (hVn:ag vs<BB^n) (hg1:ag xs / ag vs≤t) (hg2:t≤ag xs / ag vs+1) (w:World)
 (hb:Row4 w g cap (pre++(xs++post))) (hb2:b2<w.heap.size) (hne:b2≠g) (hcv:∀ i,i<n→w.cell? ⟨b2,o2+i,none⟩=some (.int .u32 ((vs.getD i 0:Nat):Int))) :
 Calls Tryz.prog 107 #[.slice (some ⟨g,0,none⟩) U cap,.slice (some ⟨b2,o2,none⟩) n c2,.int .i64 (A:Int),.int .u64 (t:Int)] w fun e w' =>
  ∃ zs:List Nat,e=.returned (.int .u32 ((ag xs / ag vs:Nat):Int))∧zs.length=n+1∧(∀ z∈zs,z<BB)∧ag zs=ag xs%ag vs∧Row4 w' g cap (pre++(zs++post))∧w.grownBy w' (some g):=by
 obtain ⟨HX,HV,HB,HCV,HT,HXL,HVL,HA,HG⟩:=cz hx hv hb hcv ht hxl hvl hA (And.intro hg1 hg2);have HV0:=hid (And.intro hV0 hVn);have hUn:A+n<U:=by rw[← hU,← hA,List.length_append,List.length_append,hxl];omega
 have ht9:(t:Int)≤999999999:=by rw[aC]at ht;omega
 clear hx hv hb hcv ht hxl hvl hA hU hg1 hg2 hV0 hVn;go_enter Tryz.func107,Tryz.ntmps107
 go_wp2;go_loopw [10,11,12] (fun bb cc ii wr=>∃ (i C b:Nat) (ys:List Nat),i≤n∧ii=.int .i64 i∧cc=.int .u64 (C:Int)∧bb=.int .i64 (b:Int)∧Hid (RdI xs vs t ys i C b)∧Hid (Row4 wr g cap (pre++(ys++(xs.drop i++post))))∧Hid (w.grownBy wr (some g))) (fun _ _ ii _=>n-(intOf ii).toNat)
 case atStart=>exact⟨0,0,0,[],Nat.zero_le _,rfl,rfl,rfl,RdI.start xs vs t,HB,World.grownBy.refl _ _⟩
 case round =>
  obtain⟨i,C,b,ys,hi,rfl,rfl,rfl,hI,hB,hG⟩:=hrel;have hdr:=eB (xs:=xs) (i:=i) (by have:=HXL.o;omega);have hxw:=HX.o _ (aU (xs:=xs) (i:=i) (by have:=HXL.o;omega));have hB':=hB.o;rw[hdr,List.cons_append]at hB';have hyl:ys.length=i:=hI.o.1.1;have hcell:=hB'.cell (i:=pre.length+ys.length) (by simp);have hfree:=hB'.free (pre.length+ys.length);rw[mQ]at hcell;rw[hyl,HA.o]at hcell hfree;have hC9:(C:Int)≤999999999:=by have:=hI.o.2.1;omega
  have hb1:(b:Int)≤1:=by have:=hI.o.2.2;omega
  have i3:(n:Int)≤100000:=by omega
  have i4:(A:Int)≤100000:=by omega
  have i5:(A:Int)+(n:Int)<(U:Int):=by omega
  have hi9:(i:Int)≤(n:Int):=by omega
  by_cases hlt:i<n
  · have hcv:=(iB hG.o hb2 hne).trans (HCV.o i hlt)
    have hvw:=HV.o _ (aU (xs:=vs) (i:=i) (by have:=HVL.o;omega));have hpc:=jN (c:=C) HT.o hvw (by rw[aC];omega)
    have hset:∀ (z:Nat),Row4 (wr.setCell ⟨g,A+i,none⟩ (.int .u32 (z:Int))) g cap (pre++(ys++(z :: (xs.drop (i+1)++post)))):=by
        intro z;have:=hB'.set (pre.length+ys.length) z;rwa [iJ,hyl,HA.o]at this
    have hkp:=fun x v (e1:xs.getD i 0=x) (e2:vs.getD i 0=v)=>hI.o.keep e1 e2 HT.o;have hbw:=fun x v (e1:xs.getD i 0=x) (e2:vs.getD i 0=v)=>hI.o.borrow e1 e2 HT.o;have HKP:=hid (hkp _ _ rfl rfl hvw hxw);have u6:=hid (hbw _ _ rfl rfl hvw);have HSET:=hid hset;clear hkp hbw hset hB' hdr hyl hB hI;generalize xs.getD i 0=x at *;generalize vs.getD i 0=v at *;obtain⟨p,hp⟩:∃ p:Nat,p=t*v:=⟨_,rfl⟩;have e1:(t:Int)*(v:Int)=(p:Int):=by rw[hp];exact(Int.natCast_mul _ _).symm
    rw[← hp]at hpc HKP u6;have w1:IntKind.u64.wrap (p:Int)=(p:Int):=IntWalk.u64_in _ (by omega);obtain⟨q,hq⟩:∃ q:Nat,q=(p+C) / BB:=⟨_,rfl⟩;obtain⟨lo,hlo⟩:∃ lo:Nat,lo=(p+C)%BB:=⟨_,rfl⟩;rw[← hq]at hpc HKP u6;rw[← hlo]at HKP u6;have hmod:((p:Int)+(C:Int))%1000000000=(lo:Int):=by rw[hlo,aC];omega
    have hdiv:((p:Int)+(C:Int)) / 1000000000=(q:Int):=by rw[hq,aC];omega
    have hlo2:(lo:Int)≤999999999:=by rw[aC]at hlo;omega
    have hx2:(x:Int)≤999999999:=by rw[aC]at hxw;omega
    have hv2:(v:Int)≤999999999:=by rw[aC]at hvw;omega
    have hp2:(p:Int)≤999999998000000001:=by omega
    have hq2:(q:Int)≤999999999:=by omega
    have i1:(i:Int)<(n:Int):=by omega
    clear hp hq hlo hpc hvw hxw;by_cases hle:lo+b≤x
    · obtain⟨y,hy⟩:∃ y:Nat,y=x-(lo+b):=⟨_,rfl⟩
      have hval:(x:Int)-(lo:Int)-(b:Int)=(y:Int):=by omega
      have hneg:decide ((y:Int)<0)=false:=decide_eq_false (by omega);have hy9:(y:Int)≤999999999:=by omega
      have HN:=hid (show RdI xs vs t (ys++[y]) (i+1) q 0 by rw[hy];exact HKP.o hle);obtain ⟨HS,HGG⟩:=aI (HSET.o y) (Lib.grownBy_setB hG.o (A+i) (.int .u32 (y:Int)));clear HKP u6 HSET hy hle hG;go_wp2;go_roundw
      case rel=>exact⟨i+1,q,0,ys++[y],by omega,by go_num,bU hdiv,rfl,HN,by rw[List.append_assoc];exact HS,HGG⟩
      case measure=>simp[intOf];omega
    · obtain⟨y,hy⟩:∃ y:Nat,y=x+BB-(lo+b):=⟨_,rfl⟩
      have hval:(x:Int)-(lo:Int)-(b:Int)+1000000000=(y:Int):=by rw[aC]at hy;omega
      have hneg:(x:Int)-(lo:Int)-(b:Int)<0:=by omega
      have hy9:(y:Int)≤999999999:=by omega
      have HN:=hid (show RdI xs vs t (ys++[y]) (i+1) q 1 by rw[hy];exact u6.o (by omega));obtain ⟨HS,HGG⟩:=aI (HSET.o y) (Lib.grownBy_setB hG.o (A+i) (.int .u32 (y:Int)));clear HKP u6 HSET hy hle hG;go_wp2;go_roundw
      case rel=>exact⟨i+1,q,1,ys++[y],by omega,by go_num,bU hdiv,rfl,HN,by rw[List.append_assoc];exact HS,HGG⟩
      case measure=>simp[intOf];omega
  · have hi':i=n:=by omega
    subst hi';have hd0:xs.drop (i+1)=[]:=List.drop_of_length_le (by have:=HXL.o;omega);rw[hd0,List.nil_append]at hB';have hlast:=fun(k y:Nat) (h2:y<BB) h3=>hI.o.1.last (y:=y) (k:=k) HVL.o HXL.o h2 h3
    have hset:∀ (z:Nat),Row4 (wr.setCell ⟨g,A+i,none⟩ (.int .u32 (z:Int))) g cap (pre++(ys++(z :: post))):=by
        intro z;have:=hB'.set (pre.length+ys.length) z;rwa [iJ,hyl,HA.o]at this
    obtain ⟨HL,HSET,Hyl⟩:=av hlast hset hyl;have hCb:=hI.o.2;have d1:decide ((i:Int)<(i:Int))=false:=decide_eq_false (by omega);clear hlast hset hB' hdr hyl hB hI hd0 hi9;generalize xs.getD i 0=x at *;have hx2:(x:Int)≤999999999:=by rw[aC]at hxw;omega
    by_cases hle:C+b≤x
    · obtain⟨y,hy⟩:∃ y:Nat,y=x-(C+b):=⟨_,rfl⟩
      have hval:(x:Int)-(C:Int)-(b:Int)=(y:Int):=by omega
      have hy0:(0:Int)≤(y:Int):=by omega
      have hy9:(y:Int)≤999999999:=by omega
      obtain⟨f1,f2,f3⟩:=HL.o 0 y (by rw[aC];omega) (by rw[hy];omega);obtain⟨s1,s2⟩:=nX HV0.o.1 HG.o.1 f3 rfl;obtain ⟨HF,HS1,HS,HGG⟩:=aP (And.intro f1 (And.intro f2 s2)) s1 (HSET.o y) (Lib.grownBy_setB hG.o (A+i) (.int .u32 (y:Int)));clear HL HSET hy hle hG f1 f2 f3 s1 s2 hCb hxw;go_wp2;go_ret
      exact⟨ys++[y],dD (by rw[← HS1.o]),HF.o.1,HF.o.2.1,HF.o.2.2,by rw[List.append_assoc];exact HS.o,HGG.o⟩
    · obtain⟨y,hy⟩:∃ y:Nat,y=x+BB-(C+b):=⟨_,rfl⟩
      have hval:(x:Int)-(C:Int)-(b:Int)+1000000000=(y:Int):=by rw[aC]at hy;omega
      have hneg:decide (0≤(x:Int)-(C:Int)-(b:Int))=false:=decide_eq_false (by omega);have hneg2:decide ((b:Int)≤(x:Int)-(C:Int))=false:=decide_eq_false (by omega);have hy9:(y:Int)≤999999999:=by omega
      obtain⟨f1,f2,f3⟩:=HL.o 1 y (by rw[aC];omega) (by rw[hy];rw[aC]at *;omega);obtain⟨s1,s2,s3⟩:=nW HV0.o.1 HG.o.1 HG.o.2 (bJ f2 (Nat.le_of_eq f1)) f3;obtain ⟨HF,HS1⟩:=aI (And.intro f1 f2) (And.intro s1 (And.intro s2 s3))
      have HS0:=hid (show Row4 (wr.setCell ⟨g,A+i,none⟩ (.int .u32 (y:Int))) g cap (pre++([]++((ys++[y]).drop 0++post))) by
       have:=HSET.o y
       rw[List.nil_append,List.drop_zero,List.append_assoc];exact this)
      have HG0:=hid (Lib.grownBy_setB hG.o (A+i) (.int .u32 (y:Int)));have ht1:(1:Int)≤(t:Int):=by omega
      have hfr:=hfree;clear HL HSET hy hle hG f1 f2 f3 s1 s2 s3 hCb hxw;go_wp2;clear hcell;generalize wr.setCell ⟨g,A+i,none⟩ (.int .u32 (y:Int))=wx at *;go_loopw [16,17] (fun cc ii wr=>∃ (k c:Nat) (zs:List Nat),k≤i∧ii=.int .i64 k∧cc=.int .u32 (c:Int)∧Hid (bZ (ys++[y]) vs zs k c)∧Hid (Row4 wr g cap (pre++(zs++((ys++[y]).drop k++post))))∧Hid (w.grownBy wr (some g))) (fun _ ii _=>i-(intOf ii).toNat)
      case atStart=>exact⟨0,0,[],Nat.zero_le _,rfl,rfl,bZ.start _ _,HS0,HG0⟩
      case round =>
       clear HS0 HG0 hfr hfree;obtain⟨k,c,zs,hk,rfl,rfl,hI,hB,hG⟩:=hrel;have hdr:=eB (xs:=ys++[y]) (i:=k) (by have:=HF.o.1;omega);have hyw:=HF.o.2 _ (aU (xs:=ys++[y]) (i:=k) (by have:=HF.o.1;omega));have hB':=hB.o;rw[hdr,List.cons_append]at hB';have hzl:zs.length=k:=hI.o.1;have hcell:=hB'.cell (i:=pre.length+zs.length) (by simp);have hfree:=hB'.free (pre.length+zs.length);rw[mQ]at hcell;rw[hzl,HA.o]at hcell hfree;have hc1:(c:Int)≤1:=by have:=hI.o.2.2.1;omega
       by_cases hlk:k<i
       · have hcv:=(iB hG.o hb2 hne).trans (HCV.o k hlk)
         have hvw:=HV.o _ (aU (xs:=vs) (i:=k) (by have:=HVL.o;omega));have HN:=hid (hI.o.step hyw hvw)
         have hset:∀ (n z:Nat),Row4 ((wr.drewN n).setCell ⟨g,A+k,none⟩ (.int .u32 (z:Int))) g cap (pre++(zs++(z :: ((ys++[y]).drop (k+1)++post)))):=by
          intro n z;have:=(hB'.drewN n).set (pre.length+zs.length) z;rwa [iJ,hzl,HA.o]at this
         have HSET:=hid hset;clear hset hB' hdr hzl hB hI;generalize (ys++[y]).getD k 0=x2 at *;generalize vs.getD k 0=v at *;obtain⟨lo,hlo⟩:∃ lo:Nat,lo=(x2+v+c)%BB:=⟨_,rfl⟩;obtain⟨q,hq⟩:∃ q:Nat,q=(x2+v+c) / BB:=⟨_,rfl⟩;rw[← hq,← hlo]at HN;have hmod:((x2:Int)+(v:Int)+(c:Int))%1000000000=(lo:Int):=by rw[hlo,aC];omega
         have hdiv:((x2:Int)+(v:Int)+(c:Int)) / 1000000000=(q:Int):=by rw[hq,aC];omega
         have hx3:(x2:Int)≤999999999:=by rw[aC]at hyw;omega
         have hv3:(v:Int)≤999999999:=by rw[aC]at hvw;omega
         have j1:(k:Int)<(i:Int):=by omega
         have HGG:=hid (fun n=>Lib.grownBy_setB (tK hG.o n) (A+k) (.int .u32 (lo:Int)));have HS:=hid (fun n=>HSET.o n lo);clear hlo hq hyw hvw HSET hG;go_wp2;go_quiet (fail)
         obtain ⟨HS2,HG2⟩:=aI (HS.o nq) (HGG.o nq);have hf2:(wr.drewN nq).frozen? ⟨g,A+k,none⟩=false:=hfree;have hc2':(wr.drewN nq).cell? ⟨g,A+k,none⟩=some (.int .u32 (x2:Int)):=hcell;clear HS HGG hcell hfree hcv;generalize wr.drewN nq=w2 at *;go_wp2;go_roundw
         case rel=>exact⟨k+1,q,zs++[lo],by omega,by go_num,bU (by omega),HN,by rw[List.append_assoc];exact HS2,HG2⟩
         case measure=>simp[intOf];omega
       · have hk':k=i:=by omega
         subst hk';have hyv:ag (ys++[y])=ag ((ys++[y]).take k)+BB^k*(ys++[y]).getD k 0:=by rw[← aF,List.take_of_length_le (by have:=HF.o.1;omega)]
         have hgy:(ys++[y]).getD k 0=y:=by simp[List.getD,Hyl.o]
         obtain⟨f1,f2,f3,f4⟩:=hI.o;rw[List.take_of_length_le (show vs.length≤k by have:=HVL.o;omega)]at f4;have hzlt:ag zs<BB^k:=bJ f2 (Nat.le_of_eq f1);have hrlt:ag xs%ag vs<BB^k:=Nat.lt_trans (Nat.mod_lt _ HV0.o.1) HV0.o.2;have s3:=HS1.o.2.2;rw[hyv,hgy,Nat.pow_succ]at s3;have hz:=rY hzlt hrlt f4.symm s3;have ht:=z0Z hzlt hrlt f4.symm s3;have hd0:(ys++[y]).drop (k+1)=[]:=List.drop_of_length_le (by have:=HF.o.1;omega);rw[hd0,List.nil_append,hgy]at hB';rw[hgy]at hcell
         have hset:Row4 (wr.setCell ⟨g,A+k,none⟩ (.int .u32 ((0:Nat):Int))) g cap (pre++(zs++(0 :: post))):=by
          have:=hB'.set (pre.length+zs.length) 0;rwa [iJ,hzl,HA.o]at this
         have hmod:((y:Int)+(c:Int))%1000000000=0:=by rw[aC]at ht;omega
         obtain ⟨HSET,HGG⟩:=aI hset (Lib.grownBy_setB hG.o (A+k) (.int .u32 ((0:Nat):Int)));have HZ:=hid (show ag (zs++[0])=ag xs%ag vs by rw[dC,Nat.mul_zero,Nat.add_zero];exact hz);have HZL:=hid (show(zs++[0]).length=k+1 by simp[f1]);have HZB:=hid (lQ f2 bD);have d2:decide ((k:Int)<(k:Int))=false:=decide_eq_false (by omega);clear hset hB' hdr hzl hB hI hyv hgy f1 f2 f3 f4 hzlt hrlt s3 hz ht hd0 hyw hG;go_wp2;go_ret
         exact⟨zs++[0],dD (by have:=HS1.o.1;omega),HZL.o,HZB.o,HZ.o,by rw[List.append_assoc];exact HSET.o,HGG.o⟩
