/- texts -/
import Derived.Test.YtlgkolkcokaefaaGreatDoorMz16q
import Derived.Test.YtlgkolkcokaefaaGreatDoorMz19q
import Derived.Lib.SmallJoins
open Go.Proofs.Tryz
set_option maxRecDepth 100000
set_option maxHeartbeats 20000000
open Go.Lib (hid)
namespace Go.Proofs.YtlgkolkcokaefaaGreatDoor
open Go.RowKit Go.Gb
theorem Blk4.alloc {w:World}(zs:List Nat)(cs:Array Value)(h:cs=(cls .u32 zs).toArray):Blk4 (w.alloc (.cells cs 89)) w.heap.size zs:=by
 unfold Blk4
 rw[heap_alloc_new,h]
theorem rF (zs:List Nat)(hB:∀ z∈zs,z<BB)(hl:zs.length≤10)(cs:Array Value)(h:cs=(cls .u32 zs).toArray)(n:Nat)(hn:n=zs.length)(w:World) :
 Calls Tryz.prog 69 #[.slice (some ⟨w.heap.size,0,none⟩) n n] (w.alloc (.cells cs 89)) fun e w'=>∃ v',e=.returned v'∧Own .u32 89 w.heap.size w' v' (ae (aj zs))∧w.alloc (.cells cs 89)=w':=by
 subst hn;exact(gF 89 w.heap.size _ zs hB _ ((Blk4.alloc zs cs h).own (Nat.le_refl _) (by unfold maxLen;omega))).mono fun e w' ⟨v',h1,h2,h3⟩=>⟨v',h1,h3▸h2,h3⟩
theorem uZ (n:Nat)(hn:n<4294967296)(w:World) :
 Calls Tryz.prog 48 #[.int .u32 (n:Int)] w fun e w'=>∃ v,e=.returned v∧Own .u32 89 w.heap.size w' v (ae n)∧Below w.heap.size w w':=by
 obtain⟨lo,hlo⟩:∃ lo,lo=n%BB:=⟨_,rfl⟩;obtain⟨hi,hhi⟩:∃ hi,hi=n / BB:=⟨_,rfl⟩;have e1:(n:Int)%1000000000=(lo:Int):=by rw[hlo,aJ];omega
 have e2:(n:Int) / 1000000000=(hi:Int):=by rw[hhi,aJ];omega
 have htr:=rF [lo,hi] (by intro z hz;simp at hz;rcases hz with rfl|rfl;· rw[hlo];exact Nat.mod_lt _ bH
                          · rw[hhi,Nat.div_lt_iff_lt_mul bH,aJ];omega) (by simp) #[.int .u32 (lo:Int),.int .u32 (hi:Int)] (by simp[cls]) 2 rfl w
 rw[show aj [lo,hi]=n by simp only[aj,Nat.mul_zero,Nat.add_zero];rw[hlo,hhi];exact Nat.mod_add_div _ _]at htr;have HTR:=hid htr;have k1:(n:Int)≤4294967295:=by omega
 have k2:(lo:Int)≤999999999:=by rw[aJ]at hlo;omega
 have k3:(hi:Int)≤4:=by rw[aJ]at hhi;omega
 clear htr hlo hhi hn;go_enter func48,ntmps48
 go_wp2_with fail
 refine HTR.out.mono ?_;rintro e w2 ⟨v',rfl,hown,rfl⟩;go_wp2;go_ret
 exact⟨v',rfl,hown,(Below.refl _ _).alloc (Nat.le_refl _) _⟩
theorem z5l (n:Nat)(hn:n<18446744073709551616)(w:World) :
 Calls Tryz.prog 71 #[.int .u64 (n:Int)] w fun e w'=>∃ v,e=.returned v∧Own .u32 89 w.heap.size w' v (ae n)∧Below w.heap.size w w':=by
 obtain⟨a,ha⟩:∃ a,a=n%BB:=⟨_,rfl⟩;obtain⟨q,hq⟩:∃ q,q=n / BB:=⟨_,rfl⟩;obtain⟨b,hb⟩:∃ b,b=q%BB:=⟨_,rfl⟩;obtain⟨c,hc⟩:∃ c,c=q / BB:=⟨_,rfl⟩;have e1:(n:Int)%1000000000=(a:Int):=by rw[ha,aJ];omega
 have e2:(n:Int) / 1000000000=(q:Int):=by rw[hq,aJ];omega
 have e3:(q:Int)%1000000000=(b:Int):=by rw[hb,aJ];omega
 have e4:(q:Int) / 1000000000=(c:Int):=by rw[hc,aJ];omega
 have k2:(a:Int)≤999999999:=by rw[aJ]at ha;omega
 have k3:(b:Int)≤999999999:=by rw[aJ]at hb;omega
 have k5:(q:Int)≤18446744073:=by rw[aJ]at hq;omega
 have k4:(c:Int)≤18:=by rw[aJ]at hc;omega
 have htr:=rF [a,b,c] (by intro z hz;simp at hz;rw[aJ];rcases hz with rfl|rfl|rfl<;>omega) (by simp) #[.int .u32 (a:Int),.int .u32 (b:Int),.int .u32 (c:Int)] (by simp[cls]) 3 rfl w
 rw[show aj [a,b,c]=n by
  simp only[aj,Nat.mul_zero,Nat.add_zero]
  rw[hb,hc,Nat.mod_add_div,ha,hq,Nat.mod_add_div]]at htr
 have HTR:=hid htr;have k1:(n:Int)≤18446744073709551615:=by omega
 clear htr ha hq hb hc hn;go_enter func71,ntmps71
 go_wp2_with fail
 refine HTR.out.mono ?_;rintro e w2 ⟨v',rfl,hown,rfl⟩;go_wp2;go_ret
 exact⟨v',rfl,hown,(Below.refl _ _).alloc (Nat.le_refl _) _⟩
theorem z4B (v:Value)(a:Nat)(hl:(ae a).length≤2)(w:World)(h:Rd .u32 w v (ae a)) :
 Calls Tryz.prog 70 #[v] w fun e w'=>e=.returned (.int .u64 (a:Int))∧w=w':=by
 obtain⟨p,c,rfl,r⟩:=h.gen;have hv:=aB a;have hB:=aQ a;generalize ae a=xs at *
 match xs,hl with
 | [],_ =>
   have h0:a=0:=by rw[← hv];rfl
   subst h0;clear hv hB r h hl;simp only[List.length_nil];go_enter func70,ntmps70
   go_wp2;refine wp_loop_rounds 1 ?_;rw[rounds_succ];go_wp2;go_ret
   exact⟨rfl,rfl⟩
 | [x],_ =>
   have h0:a=x:=by rw[← hv];simp[aj]
   have hx:=hB x (by simp);rw[aJ]at hx;subst h0;obtain⟨b,o,rfl,hb,hc⟩:=r 0 (by simp);simp only[List.getD_cons_zero,Nat.add_zero]at hc;have k1:(a:Int)≤999999999:=by omega
   clear hv hB r h hl hb hx;simp only[List.length_cons,List.length_nil];go_enter func70,ntmps70
   go_wp2;refine wp_loop_rounds 2 ?_;rw[rounds_succ];go_wp2;rw[rounds_succ];go_wp2;go_ret
   exact⟨rfl,rfl⟩
 | [x,y],_ =>
   have hx:=hB x (by simp);have hy:=hB y (by simp);have h0:a=x+1000000000*y:=by rw[← hv];simp only[aj,Nat.mul_zero,Nat.add_zero];rw[aJ]
   rw[aJ]at hx hy;obtain⟨b,o,rfl,hb,hc⟩:=r 0 (by simp);obtain⟨b',o',hp,hb',hc'⟩:=r 1 (by simp);injection hp with hp
   injection hp with e1 e2 e3
   subst e1 e2;simp only[List.getD_cons_zero,List.getD_cons_succ,Nat.add_zero]at hc hc';have k1:(x:Int)≤999999999:=by omega
   have k2:(y:Int)≤999999999:=by omega
   have H0:=hid h0;clear hv hB r h hl hb hb' hx hy h0;simp only[List.length_cons,List.length_nil];go_enter func70,ntmps70
   go_wp2;refine wp_loop_rounds 3 ?_;rw[rounds_succ];go_wp2;rw[rounds_succ];go_wp2;rw[rounds_succ];go_wp2;go_ret
   exact⟨dB (by have:=H0.out;omega),rfl⟩
 | _ :: _ :: _ :: _,hl=>simp at hl
theorem oW (v1:Value)(a d:Nat)(hd:0<d)(hdB:d<BB)(hl:(ae a).length≤100000)(w:World)(h1:Rd .u32 w v1 (ae a)) :
 Calls Tryz.prog 88 #[v1,.int .u32 (d:Int)] w fun e w'=>∃ v,e=.returned (.tuple #[v,.int .u32 ((a%d:Nat):Int)])∧Own .u32 89 w.heap.size w' v (ae (a / d))∧Below w.heap.size w w':=by
 obtain⟨i0,hi,hz0,hz1,hz2⟩:=info_parts Tryz.info89;obtain⟨p,c,rfl,r1⟩:=h1.gen;have hv:=aB a;have hx:=aQ a;generalize ae a=xs at *;obtain ⟨HX,HV,HR⟩:=ah hx hv r1;have hd1:(1:Int)≤(d:Int):=by omega
 have hd2:(d:Int)≤999999999:=by rw[aJ]at hdB;omega
 have hdz:((d:Int)==0)=false:=beq_eq_false_iff_ne.2 (by omega);have HD:=hid hd;clear h1 hx hv r1 hd hdB;go_enter func88,ntmps88
 go_wp2_with (at_make;refine wpList_make_full _ rfl _ _ 49 rfl w.heap.size 89 i0 (.int .u32 0) 1 underlying49 hi hz0 hz1 _ _ _ _ xs.length rfl rfl (by omega) (by omega) ?b2 ?b3 (Nat.le_refl _) ?_)
 case b2=>rw[hz2];omega
 case b3=>unfold maxLen;omega
 intro w0 hown0 hgrow0;have HB0:=hid (show Blk4 w0 w.heap.size (List.replicate xs.length 0) from Blk4.of_made hown0 (iO _));have HN0:=hid ((Below.refl w.heap.size w).grown hgrow0 (Nat.le_refl _) (fun k h=>by cases h));clear hown0 hgrow0;go_wp2;go_loopw [7,8] (fun rr ii wr=>∃ (z:Int) (r:Nat) (os:List Nat),-1≤z∧z<xs.length∧ii=.int .i64 z∧rr=.int .u64 (r:Int)∧Hid (qU xs os d (z+1).toNat r)∧Hid (Blk4 wr w.heap.size (List.replicate (z+1).toNat 0++os))∧Hid (Below w.heap.size w wr)) (fun _ ii _=>(intOf ii+1).toNat)
 case atStart=>exact⟨(xs.length:Int)-1,0,[],by omega,by omega,rfl,rfl,by rw[show((xs.length:Int)-1+1).toNat=xs.length by omega];exact qU.start xs HD.out,by rw[show((xs.length:Int)-1+1).toNat=xs.length by omega,List.append_nil];exact HB0,HN0⟩
 case round =>
  obtain⟨z,r,os,hz1',hz8,rfl,rfl,hI,hB,hn⟩:=hrel;by_cases hz:0≤z
  · obtain⟨j,rfl⟩:=Int.eq_ofNat_of_zero_le hz
    have hj:j<xs.length:=by omega
    have hI':=hI.out;have hB':=hB.out;rw[show((j:Int)+1).toNat=j+1 by omega]at hI' hB';obtain⟨b1,o1,rfl,hb1,hc1⟩:=HR.out j hj;have hcx:=(hn.out.cell (p:=⟨b1,o1+j,none⟩) hb1).trans hc1;have hxw:=HX.out _ (aW hj);have hst:=hI'.step hj HX.out;have hr:=hI'.2.2.1;rw[iC,List.append_assoc]at hB';have e1:(List.replicate j 0++([0]++os)).getD j 0=0:=by simp[List.getD]
    have hcell:=hB'.cell (i:=j) (by simp);have hfree:=hB'.free j;have hset:=hB'.set j ((r*BB+xs.getD j 0) / d);have e2:(List.replicate j 0++([0]++os)).set j ((r*BB+xs.getD j 0) / d)=List.replicate j 0++((r*BB+xs.getD j 0) / d :: os):=by simp
    rw[e1]at hcell;rw[e2]at hset;have hqB:=nK hr hxw;have hbel:=hn.out.setCell (p:=⟨w.heap.size,j,none⟩) (Nat.le_refl _) (.int .u32 (((r*BB+xs.getD j 0) / d:Nat):Int));obtain ⟨HS,HI,HBL⟩:=ah hset hst hbel;clear hI' hB' hst e1 e2 hset hbel hI hB hn hb1 hc1;generalize xs.getD j 0=x at *;rw[aJ]at hxw;have hr2:r<999999999:=by omega
    obtain⟨q,hq⟩:∃ q,q=(r*BB+x) / d:=⟨_,rfl⟩;obtain⟨m,hm⟩:∃ m,m=(r*BB+x)%d:=⟨_,rfl⟩;rw[← hq]at hqB HS HI HBL;rw[← hm]at HI;have hqI:((r:Int)*1000000000+(x:Int)) / (d:Int)=(q:Int):=by rw[hq,aJ];rfl
    have hmI:((r:Int)*1000000000+(x:Int))%(d:Int)=(m:Int):=by rw[hm,aJ];rfl
    have k1:(x:Int)≤999999999:=by omega
    have k2:(r:Int)≤999999999:=by omega
    have k3:(q:Int)≤999999999:=by rw[aJ]at hqB;omega
    clear hq hm hxw hr hr2 hqB;go_wp2;go_roundw
    case rel=>exact⟨(j:Int)-1,m,q :: os,by omega,by omega,rfl,bW hmI,by rw[show((j:Int)-1+1).toNat=j by omega];exact HI,by rw[show((j:Int)-1+1).toNat=j by omega];exact HS,HBL⟩
    case measure=>simp[intOf]
  · have hz0':(z+1).toNat=0:=by omega
    have hI':=hI.out;have hB':=hB.out;rw[hz0']at hI' hB';obtain⟨g1,g2,g3,g4⟩:=hI';rw[List.drop_zero,HV.out]at g4;rw[List.replicate_zero,List.nil_append]at hB';have hown:=Blk4.own hB' (Nat.le_refl _) (by unfold maxLen;omega);have hq:aj os=a / d:=by rw[g4,Nat.add_comm,Nat.add_mul_div_right _ _ HD.out,Nat.div_eq_of_lt g3,Nat.zero_add]
    have hm:r=a%d:=by rw[g4,Nat.add_comm,Nat.add_mul_mod_self_right,Nat.mod_eq_of_lt g3]
    have htr:=gF 89 w.heap.size _ os g2 wr hown;rw[g1,Nat.sub_zero,hq]at htr;obtain ⟨HTR,HM⟩:=aD htr hm;have k2:(r:Int)≤999999999:=by omega
    clear g1 g2 g3 g4 hB' hown hq htr hz0' hm;go_wp2_with fail
    refine HTR.out.mono ?_;rintro e w2 ⟨v',rfl,hown,rfl⟩;go_wp2;go_ret2
    exact⟨v',lQ (by rw[HM.out]),hown,hn.out⟩
end Go.Proofs.YtlgkolkcokaefaaGreatDoor
open Go.Lib (hid)
namespace Go.Gb
def RdI (xs vs:List Nat) (t:Nat) (ys:List Nat) (i C b:Nat):Prop:=SubI xs vs t ys i (C+b)∧C≤999999999∧b≤1
theorem RdI.start (xs vs:List Nat)(t:Nat):RdI xs vs t [] 0 0 0:=⟨SubI.start xs vs t,by omega,by omega⟩
theorem RdI.keep {xs vs ys:List Nat}{t i C b x v:Nat}(h:RdI xs vs t ys i C b)(ex:xs.getD i 0=x)(ev:vs.getD i 0=v)(ht:t<BB)(hv:v<BB)(hx:x<BB)(hle:(t*v+C)%BB+b≤x):RdI xs vs t (ys++[x-((t*v+C)%BB+b)]) (i+1) ((t*v+C) / BB) 0:=by
 obtain⟨h1,h2,h3⟩:=h;have hq:=(kr (t:=t) (v:=v) (c:=C) ht hv (by rw[aJ];omega)).2;have hd:=Nat.div_add_mod (t*v+C) BB;have hqB:(t*v+C) / BB+1≤BB:=by rw[aJ]at hq ⊢;omega
 refine⟨h1.next (by omega) (by omega) ?_,hq,by omega⟩;rw[ex,ev];generalize t*v=p at *;generalize (p+C) / BB=q at *;generalize (p+C)%BB=lo at *;rw[Nat.add_zero];omega
theorem RdI.borrow {xs vs ys:List Nat}{t i C b x v:Nat}(h:RdI xs vs t ys i C b)(ex:xs.getD i 0=x)(ev:vs.getD i 0=v)(ht:t<BB)(hv:v<BB)(hlt:x<(t*v+C)%BB+b):RdI xs vs t (ys++[x+BB-((t*v+C)%BB+b)]) (i+1) ((t*v+C) / BB) 1:=by
 obtain⟨h1,h2,h3⟩:=h;have hq:=(kr (t:=t) (v:=v) (c:=C) ht hv (by rw[aJ];omega)).2;have hd:=Nat.div_add_mod (t*v+C) BB;have hm:=Nat.mod_lt (t*v+C) bH;have hqB:(t*v+C) / BB+1≤BB:=by rw[aJ]at hq ⊢;omega
 refine⟨h1.next (by omega) (by omega) ?_,hq,by omega⟩;rw[ex,ev];generalize t*v=p at *;generalize (p+C) / BB=q at *;generalize (p+C)%BB=lo at *;rw[Nat.mul_add];omega
end Go.Gb
namespace Go.Proofs.YtlgkolkcokaefaaGreatDoor
open Go.RowKit Go.Gb
theorem uy {w w':World}{row:Option Nat}(h:w.grownBy w' row)(n:Nat):w.grownBy (w'.drewN n) row:=⟨h.os,h.tape,h.output,h.size,h.block⟩
theorem uX (g cap b2 o2 c2 n t A U:Nat)(pre xs post vs:List Nat)(hA:pre.length=A)(hU:(pre++(xs++post)).length=U)(hxl:xs.length=n+1)(hvl:vs.length=n)(hn:n≤100000)(hA9:A≤100000)(ht:t<BB)(hx:∀ x∈xs,x<BB)(hv:∀ v∈vs,v<BB)
 (hV0:0<aj vs) (hVn:aj vs<BB^n) (hg1:aj xs / aj vs≤t) (hg2:t≤aj xs / aj vs+1) (w:World)
 (hb:Row4 w g cap (pre++(xs++post))) (hb2:b2<w.heap.size) (hne:b2≠g) (hcv:∀ i,i<n→w.cell? ⟨b2,o2+i,none⟩=some (.int .u32 ((vs.getD i 0:Nat):Int))) :
 Calls Tryz.prog 89 #[.slice (some ⟨g,0,none⟩) U cap,.slice (some ⟨b2,o2,none⟩) n c2,.int .i64 (A:Int),.int .u64 (t:Int)] w fun e w' =>
  ∃ zs:List Nat,e=.returned (.int .u32 ((aj xs / aj vs:Nat):Int))∧zs.length=n+1∧(∀ z∈zs,z<BB)∧aj zs=aj xs%aj vs∧Row4 w' g cap (pre++(zs++post))∧w.grownBy w' (some g):=by
 obtain ⟨HX,HV,HB,HCV,HT,HXL,HVL,HA,HG,HV0⟩:=jk hx hv hb hcv ht hxl hvl hA (And.intro hg1 hg2) (And.intro hV0 hVn);have hUn:A+n<U:=by rw[← hU,← hA,List.length_append,List.length_append,hxl];omega
 have ht9:(t:Int)≤999999999:=by rw[aJ]at ht;omega
 clear hx hv hb hcv ht hxl hvl hA hU hg1 hg2 hV0 hVn;go_enter func89,ntmps89
 go_wp2;go_loopw [10,11,12] (fun bb cc ii wr=>∃ (i C b:Nat) (ys:List Nat),i≤n∧ii=.int .i64 i∧cc=.int .u64 (C:Int)∧bb=.int .i64 (b:Int)∧Hid (RdI xs vs t ys i C b)∧Hid (Row4 wr g cap (pre++(ys++(xs.drop i++post))))∧Hid (w.grownBy wr (some g))) (fun _ _ ii _=>n-(intOf ii).toNat)
 case atStart=>exact⟨0,0,0,[],Nat.zero_le _,rfl,rfl,rfl,RdI.start xs vs t,HB,World.grownBy.refl _ _⟩
 case round =>
  obtain⟨i,C,b,ys,hi,rfl,rfl,rfl,hI,hB,hG⟩:=hrel;have hdr:=eB (xs:=xs) (i:=i) (by have:=HXL.out;omega);have hxw:=HX.out _ (aW (xs:=xs) (i:=i) (by have:=HXL.out;omega));have hB':=hB.out;rw[hdr,List.cons_append]at hB';have hyl:ys.length=i:=hI.out.1.1;have hcell:=hB'.cell (i:=pre.length+ys.length) (by simp);have hfree:=hB'.free (pre.length+ys.length);rw[nG]at hcell;rw[hyl,HA.out]at hcell hfree;have hC9:(C:Int)≤999999999:=by have:=hI.out.2.1;omega
  have hb1:(b:Int)≤1:=by have:=hI.out.2.2;omega
  have i3:(n:Int)≤100000:=by omega
  have i4:(A:Int)≤100000:=by omega
  have i5:(A:Int)+(n:Int)<(U:Int):=by omega
  have hi9:(i:Int)≤(n:Int):=by omega
  by_cases hlt:i<n
  · have hcv:=(iF hG.out hb2 hne).trans (HCV.out i hlt)
    have hvw:=HV.out _ (aW (xs:=vs) (i:=i) (by have:=HVL.out;omega));have hpc:=kr (c:=C) HT.out hvw (by rw[aJ];omega)
    have hset:∀ (z:Nat),Row4 (wr.setCell ⟨g,A+i,none⟩ (.int .u32 (z:Int))) g cap (pre++(ys++(z :: (xs.drop (i+1)++post)))):=by
        intro z;have:=hB'.set (pre.length+ys.length) z;rwa [iL,hyl,HA.out]at this
    have hkp:=fun x v (e1:xs.getD i 0=x) (e2:vs.getD i 0=v)=>hI.out.keep e1 e2 HT.out;have hbw:=fun x v (e1:xs.getD i 0=x) (e2:vs.getD i 0=v)=>hI.out.borrow e1 e2 HT.out;have HKP:=hid (hkp _ _ rfl rfl hvw hxw);have HBW:=hid (hbw _ _ rfl rfl hvw);have HSET:=hid hset;clear hkp hbw hset hB' hdr hyl hB hI;generalize xs.getD i 0=x at *;generalize vs.getD i 0=v at *;obtain⟨p,hp⟩:∃ p:Nat,p=t*v:=⟨_,rfl⟩;have e1:(t:Int)*(v:Int)=(p:Int):=by rw[hp];exact(Int.natCast_mul _ _).symm
    rw[← hp]at hpc HKP HBW;have w1:IntKind.u64.wrap (p:Int)=(p:Int):=IntWalk.u64_in _ (by omega);obtain⟨q,hq⟩:∃ q:Nat,q=(p+C) / BB:=⟨_,rfl⟩;obtain⟨lo,hlo⟩:∃ lo:Nat,lo=(p+C)%BB:=⟨_,rfl⟩;rw[← hq]at hpc HKP HBW;rw[← hlo]at HKP HBW;have hmod:((p:Int)+(C:Int))%1000000000=(lo:Int):=by rw[hlo,aJ];omega
    have hdiv:((p:Int)+(C:Int)) / 1000000000=(q:Int):=by rw[hq,aJ];omega
    have hlo2:(lo:Int)≤999999999:=by rw[aJ]at hlo;omega
    have hx2:(x:Int)≤999999999:=by rw[aJ]at hxw;omega
    have hv2:(v:Int)≤999999999:=by rw[aJ]at hvw;omega
    have hp2:(p:Int)≤999999998000000001:=by omega
    have hq2:(q:Int)≤999999999:=by omega
    have i1:(i:Int)<(n:Int):=by omega
    clear hp hq hlo hpc hvw hxw;by_cases hle:lo+b≤x
    · obtain⟨y,hy⟩:∃ y:Nat,y=x-(lo+b):=⟨_,rfl⟩
      have hval:(x:Int)-(lo:Int)-(b:Int)=(y:Int):=by omega
      have hneg:decide ((y:Int)<0)=false:=decide_eq_false (by omega);have hy9:(y:Int)≤999999999:=by omega
      have HN:=hid (show RdI xs vs t (ys++[y]) (i+1) q 0 by rw[hy];exact HKP.out hle);obtain ⟨HS,HGG⟩:=aD (HSET.out y) (Lib.grownBy_setB hG.out (A+i) (.int .u32 (y:Int)));clear HKP HBW HSET hy hle hG;go_wp2;go_roundw
      case rel=>exact⟨i+1,q,0,ys++[y],by omega,by go_num,bW hdiv,rfl,HN,by rw[List.append_assoc];exact HS,HGG⟩
      case measure=>simp[intOf];omega
    · obtain⟨y,hy⟩:∃ y:Nat,y=x+BB-(lo+b):=⟨_,rfl⟩
      have hval:(x:Int)-(lo:Int)-(b:Int)+1000000000=(y:Int):=by rw[aJ]at hy;omega
      have hneg:(x:Int)-(lo:Int)-(b:Int)<0:=by omega
      have hy9:(y:Int)≤999999999:=by omega
      have HN:=hid (show RdI xs vs t (ys++[y]) (i+1) q 1 by rw[hy];exact HBW.out (by omega));obtain ⟨HS,HGG⟩:=aD (HSET.out y) (Lib.grownBy_setB hG.out (A+i) (.int .u32 (y:Int)));clear HKP HBW HSET hy hle hG;go_wp2;go_roundw
      case rel=>exact⟨i+1,q,1,ys++[y],by omega,by go_num,bW hdiv,rfl,HN,by rw[List.append_assoc];exact HS,HGG⟩
      case measure=>simp[intOf];omega
  · have hi':i=n:=by omega
    subst hi';have hd0:xs.drop (i+1)=[]:=List.drop_of_length_le (by have:=HXL.out;omega);rw[hd0,List.nil_append]at hB';have hlast:=fun(k y:Nat) (h2:y<BB) h3=>hI.out.1.last (y:=y) (k:=k) HVL.out HXL.out h2 h3
    have hset:∀ (z:Nat),Row4 (wr.setCell ⟨g,A+i,none⟩ (.int .u32 (z:Int))) g cap (pre++(ys++(z :: post))):=by
        intro z;have:=hB'.set (pre.length+ys.length) z;rwa [iL,hyl,HA.out]at this
    obtain ⟨HL,HSET,Hyl⟩:=ah hlast hset hyl;have hCb:=hI.out.2;have d1:decide ((i:Int)<(i:Int))=false:=decide_eq_false (by omega);clear hlast hset hB' hdr hyl hB hI hd0 hi9;generalize xs.getD i 0=x at *;have hx2:(x:Int)≤999999999:=by rw[aJ]at hxw;omega
    by_cases hle:C+b≤x
    · obtain⟨y,hy⟩:∃ y:Nat,y=x-(C+b):=⟨_,rfl⟩
      have hval:(x:Int)-(C:Int)-(b:Int)=(y:Int):=by omega
      have hy0:(0:Int)≤(y:Int):=by omega
      have hy9:(y:Int)≤999999999:=by omega
      obtain⟨f1,f2,f3⟩:=HL.out 0 y (by rw[aJ];omega) (by rw[hy];omega);obtain⟨s1,s2⟩:=ou HV0.out.1 HG.out.1 f3 rfl;obtain ⟨HF,HS1,HS,HGG⟩:=aH (And.intro f1 (And.intro f2 s2)) s1 (HSET.out y) (Lib.grownBy_setB hG.out (A+i) (.int .u32 (y:Int)));clear HL HSET hy hle hG f1 f2 f3 s1 s2 hCb hxw;go_wp2;go_ret
      exact⟨ys++[y],dB (by rw[← HS1.out]),HF.out.1,HF.out.2.1,HF.out.2.2,by rw[List.append_assoc];exact HS.out,HGG.out⟩
    · obtain⟨y,hy⟩:∃ y:Nat,y=x+BB-(C+b):=⟨_,rfl⟩
      have hval:(x:Int)-(C:Int)-(b:Int)+1000000000=(y:Int):=by rw[aJ]at hy;omega
      have hneg:decide (0≤(x:Int)-(C:Int)-(b:Int))=false:=decide_eq_false (by omega);have hneg2:decide ((b:Int)≤(x:Int)-(C:Int))=false:=decide_eq_false (by omega);have hy9:(y:Int)≤999999999:=by omega
      obtain⟨f1,f2,f3⟩:=HL.out 1 y (by rw[aJ];omega) (by rw[hy];rw[aJ]at *;omega);obtain⟨s1,s2,s3⟩:=oq HV0.out.1 HG.out.1 HG.out.2 (bP f2 (Nat.le_of_eq f1)) f3;obtain ⟨HF,HS1⟩:=aD (And.intro f1 f2) (And.intro s1 (And.intro s2 s3))
      have HS0:=hid (show Row4 (wr.setCell ⟨g,A+i,none⟩ (.int .u32 (y:Int))) g cap (pre++([]++((ys++[y]).drop 0++post))) by
       have:=HSET.out y
       rw[List.nil_append,List.drop_zero,List.append_assoc];exact this)
      have HG0:=hid (Lib.grownBy_setB hG.out (A+i) (.int .u32 (y:Int)));have ht1:(1:Int)≤(t:Int):=by omega
      have hfr:=hfree;clear HL HSET hy hle hG f1 f2 f3 s1 s2 s3 hCb hxw;go_wp2;clear hcell;generalize wr.setCell ⟨g,A+i,none⟩ (.int .u32 (y:Int))=wx at *;go_loopw [16,17] (fun cc ii wr=>∃ (k c:Nat) (zs:List Nat),k≤i∧ii=.int .i64 k∧cc=.int .u32 (c:Int)∧Hid (bZ (ys++[y]) vs zs k c)∧Hid (Row4 wr g cap (pre++(zs++((ys++[y]).drop k++post))))∧Hid (w.grownBy wr (some g))) (fun _ ii _=>i-(intOf ii).toNat)
      case atStart=>exact⟨0,0,[],Nat.zero_le _,rfl,rfl,bZ.start _ _,HS0,HG0⟩
      case round =>
       clear HS0 HG0 hfr hfree;obtain⟨k,c,zs,hk,rfl,rfl,hI,hB,hG⟩:=hrel;have hdr:=eB (xs:=ys++[y]) (i:=k) (by have:=HF.out.1;omega);have hyw:=HF.out.2 _ (aW (xs:=ys++[y]) (i:=k) (by have:=HF.out.1;omega));have hB':=hB.out;rw[hdr,List.cons_append]at hB';have hzl:zs.length=k:=hI.out.1;have hcell:=hB'.cell (i:=pre.length+zs.length) (by simp);have hfree:=hB'.free (pre.length+zs.length);rw[nG]at hcell;rw[hzl,HA.out]at hcell hfree;have hc1:(c:Int)≤1:=by have:=hI.out.2.2.1;omega
       by_cases hlk:k<i
       · have hcv:=(iF hG.out hb2 hne).trans (HCV.out k hlk)
         have hvw:=HV.out _ (aW (xs:=vs) (i:=k) (by have:=HVL.out;omega));have HN:=hid (hI.out.step hyw hvw)
         have hset:∀ (n z:Nat),Row4 ((wr.drewN n).setCell ⟨g,A+k,none⟩ (.int .u32 (z:Int))) g cap (pre++(zs++(z :: ((ys++[y]).drop (k+1)++post)))):=by
          intro n z;have:=(hB'.drewN n).set (pre.length+zs.length) z;rwa [iL,hzl,HA.out]at this
         have HSET:=hid hset;clear hset hB' hdr hzl hB hI;generalize (ys++[y]).getD k 0=x2 at *;generalize vs.getD k 0=v at *;obtain⟨lo,hlo⟩:∃ lo:Nat,lo=(x2+v+c)%BB:=⟨_,rfl⟩;obtain⟨q,hq⟩:∃ q:Nat,q=(x2+v+c) / BB:=⟨_,rfl⟩;rw[← hq,← hlo]at HN;have hmod:((x2:Int)+(v:Int)+(c:Int))%1000000000=(lo:Int):=by rw[hlo,aJ];omega
         have hdiv:((x2:Int)+(v:Int)+(c:Int)) / 1000000000=(q:Int):=by rw[hq,aJ];omega
         have hx3:(x2:Int)≤999999999:=by rw[aJ]at hyw;omega
         have hv3:(v:Int)≤999999999:=by rw[aJ]at hvw;omega
         have j1:(k:Int)<(i:Int):=by omega
         have HGG:=hid (fun n=>Lib.grownBy_setB (uy hG.out n) (A+k) (.int .u32 (lo:Int)));have HS:=hid (fun n=>HSET.out n lo);clear hlo hq hyw hvw HSET hG;go_wp2;go_quiet (fail)
         obtain ⟨HS2,HG2⟩:=aD (HS.out nq) (HGG.out nq);have hf2:(wr.drewN nq).frozen? ⟨g,A+k,none⟩=false:=hfree;have hc2':(wr.drewN nq).cell? ⟨g,A+k,none⟩=some (.int .u32 (x2:Int)):=hcell;clear HS HGG hcell hfree hcv;generalize wr.drewN nq=w2 at *;go_wp2;go_roundw
         case rel=>exact⟨k+1,q,zs++[lo],by omega,by go_num,bW (by omega),HN,by rw[List.append_assoc];exact HS2,HG2⟩
         case measure=>simp[intOf];omega
       · have hk':k=i:=by omega
         subst hk';have hyv:aj (ys++[y])=aj ((ys++[y]).take k)+BB^k*(ys++[y]).getD k 0:=by rw[← aL,List.take_of_length_le (by have:=HF.out.1;omega)]
         have hgy:(ys++[y]).getD k 0=y:=by simp[List.getD,Hyl.out]
         obtain⟨f1,f2,f3,f4⟩:=hI.out;rw[List.take_of_length_le (show vs.length≤k by have:=HVL.out;omega)]at f4;have hzlt:aj zs<BB^k:=bP f2 (Nat.le_of_eq f1);have hrlt:aj xs%aj vs<BB^k:=Nat.lt_trans (Nat.mod_lt _ HV0.out.1) HV0.out.2;have s3:=HS1.out.2.2;rw[hyv,hgy,Nat.pow_succ]at s3;have hz:=sV hzlt hrlt f4.symm s3;have ht:=z2A hzlt hrlt f4.symm s3;have hd0:(ys++[y]).drop (k+1)=[]:=List.drop_of_length_le (by have:=HF.out.1;omega);rw[hd0,List.nil_append,hgy]at hB';rw[hgy]at hcell
         have hset:Row4 (wr.setCell ⟨g,A+k,none⟩ (.int .u32 ((0:Nat):Int))) g cap (pre++(zs++(0 :: post))):=by
          have:=hB'.set (pre.length+zs.length) 0;rwa [iL,hzl,HA.out]at this
         have hmod:((y:Int)+(c:Int))%1000000000=0:=by rw[aJ]at ht;omega
         obtain ⟨HSET,HGG⟩:=aD hset (Lib.grownBy_setB hG.out (A+k) (.int .u32 ((0:Nat):Int)));have HZ:=hid (show aj (zs++[0])=aj xs%aj vs by rw[dA,Nat.mul_zero,Nat.add_zero];exact hz);have HZL:=hid (show(zs++[0]).length=k+1 by simp[f1]);have HZB:=hid (mG f2 bH);have d2:decide ((k:Int)<(k:Int))=false:=decide_eq_false (by omega);clear hset hB' hdr hzl hB hI hyv hgy f1 f2 f3 f4 hzlt hrlt s3 hz ht hd0 hyw hG;go_wp2;go_ret
         exact⟨zs++[0],dB (by have:=HS1.out.1;omega),HZL.out,HZB.out,HZ.out,by rw[List.append_assoc];exact HSET.out,HGG.out⟩
open Go.Lib (hid)
theorem z2J (a1 a2:Option Addr)(n m c1 c2:Nat)(h:n≠m)(w:World) :
 Calls Tryz.prog 49 #[.slice a1 n c1,.slice a2 m c2] w fun e w'=>e=.returned (.int .i64 (cmpN n m))∧w=w':=by
 have hb:((n:Int) != (m:Int))=true:=bne_iff_ne.2 (by omega);by_cases hlt:n<m
 · have HF:=hid (fD hlt)
   go_enter func49,ntmps49
   go_wp2;go_ret
   exact⟨dB HF.out.symm,rfl⟩
 · have HF:=hid (ik (show m<n by omega))
   go_enter func49,ntmps49
   go_wp2;go_ret
   exact⟨dB HF.out.symm,rfl⟩
theorem z0S (b1 o1 c1 b2 o2 c2:Nat)(xs ys:List Nat)(hxy:xs.length=ys.length)(hx:∀ x∈xs,x<BB)(hy:∀ y∈ys,y<BB)(hl:xs.length≤1000000)(w:World)
 (hcx:∀ i,i<xs.length→w.cell? ⟨b1,o1+i,none⟩=some (.int .u32 ((xs.getD i 0:Nat):Int)))
 (hcy:∀ i,i<ys.length→w.cell? ⟨b2,o2+i,none⟩=some (.int .u32 ((ys.getD i 0:Nat):Int))) :
 CR 49 #[.slice (some ⟨b1,o1,none⟩) xs.length c1,.slice (some ⟨b2,o2,none⟩) xs.length c2] w (.int .i64 (cmpN (aj xs) (aj ys))):=by
 obtain ⟨HXY,HX,HY,HCX,HCY⟩:=aO hxy hx hy hcx hcy;clear hxy hx hy hcx hcy;have hb:((xs.length:Int) != (xs.length:Int))=false:=by simp
 go_enter func49,ntmps49
 go_wp2;go_loopw [5] (fun ii wr=>∃ z:Int,-1≤z∧z<xs.length∧ii=.int .i64 z∧Hid (z0W xs ys (z+1).toNat)∧Hid (Below w.heap.size w wr)) (fun ii _=>(intOf ii+1).toNat)
 case atStart=>exact⟨(xs.length:Int)-1,by omega,by omega,rfl,fun j h1 h2=>absurd h1 (by omega),Below.refl _ _⟩
 case round =>
  obtain⟨z,hz1',hz8,rfl,he,hn⟩:=hrel;by_cases hz:0≤z
  · obtain⟨j,rfl⟩:=Int.eq_ofNat_of_zero_le hz
    have hb1:=World.block_lt_of_cell? _ _ (HCX.out j (by omega));have hb2:=World.block_lt_of_cell? _ _ (HCY.out j (by have:=HXY.out;omega));have hcx:=(hn.out.cell (p:=⟨b1,o1+j,none⟩) hb1).trans (HCX.out j (by omega));have hcy:=(hn.out.cell (p:=⟨b2,o2+j,none⟩) hb2).trans (HCY.out j (by have:=HXY.out;omega));have he':=he.out;rw[show((j:Int)+1).toNat=j+1 by omega]at he';have HE:=hid he';clear he' he;have hjl:=hid (show j<xs.length by omega);have hL:xs.getD j 0<ys.getD j 0→aj xs<aj ys:=fun h=>jC HXY.out hjl.out HX.out (fun k h1 h2=>HE.out k (by omega) h2) h;have hG:ys.getD j 0<xs.getD j 0→aj ys<aj xs:=fun h=>jC HXY.out.symm (by have:=HXY.out;have:=hjl.out;omega) HY.out (fun k h1 h2=>(HE.out k (by omega) (by have:=HXY.out;omega)).symm) h;obtain ⟨HL,HG⟩:=aD hL hG
    have HEQ:=hid (show xs.getD j 0=ys.getD j 0→z0W xs ys j from fun h k h1 h2=>by
        by_cases hk:k=j
        · subst hk;exact h
        · exact HE.out k (by omega) h2)
    clear hL hG HE;generalize xs.getD j 0=x at *;generalize ys.getD j 0=y at *;clear hb1 hb2;have i1:(0:Int)≤(j:Int):=by omega
    have i2:(j:Int)<(xs.length:Int):=by omega
    by_cases h1:x<y
    · have HF:=hid (fD (HL.out h1))
      go_wp2;go_quiet (fail)
      have HN2:=hid (below_drewN' hn.out nq);go_wp2;go_ret
      exact⟨dB HF.out.symm,HN2.out⟩
    · by_cases h2:y<x
      · have HF:=hid (ik (HG.out h2))
        go_wp2;go_quiet (fail)
        go_wp2;have hn2:=below_drewN' hn.out nq;have hcx2:(wr.drewN nq).cell? ⟨b1,o1+j,none⟩=some (.int .u32 (x:Int)):=hcx;have hcy2:(wr.drewN nq).cell? ⟨b2,o2+j,none⟩=some (.int .u32 (y:Int)):=hcy;have HN2:=hid hn2;clear hcx hcy hn2;generalize wr.drewN nq=w2 at *;go_quiet (fail)
        have HN3:=hid (below_drewN' HN2.out nq);go_wp2;go_ret
        exact⟨dB HF.out.symm,HN3.out⟩
      · have HF:=hid (HEQ.out (by omega))
        go_wp2;go_quiet (fail)
        go_wp2;have hn2:=below_drewN' hn.out nq;have hcx2:(wr.drewN nq).cell? ⟨b1,o1+j,none⟩=some (.int .u32 (x:Int)):=hcx;have hcy2:(wr.drewN nq).cell? ⟨b2,o2+j,none⟩=some (.int .u32 (y:Int)):=hcy;have HN2:=hid hn2;clear hcx hcy hn2;generalize wr.drewN nq=w2 at *;go_quiet (fail)
        have HN3:=hid (below_drewN' HN2.out nq);go_wp2;go_roundw
        case rel=>exact⟨(j:Int)-1,by omega,by omega,rfl,by rw[show((j:Int)-1+1).toNat=j by omega];exact HF,HN3⟩
        case measure=>simp[intOf]
  · have hz0':(z+1).toNat=0:=by omega
    have he':=he.out;rw[hz0']at he';have heq:=hid (nJ HXY.out (fun j hj=>he' j (by omega) hj));clear he' hz0';go_wp2;go_ret
    exact⟨dB (by rw[heq.out,qI]),hn.out⟩
theorem z0T (a1 a2:Option Addr)(c1 c2:Nat)(w:World) :
 Calls Tryz.prog 49 #[.slice a1 0 c1,.slice a2 0 c2] w fun e w'=>e=.returned (.int .i64 0)∧w=w':=by
 go_enter func49,ntmps49
 go_wp2;refine wp_loop_rounds 1 ?_;rw[rounds_succ];go_wp2;go_ret
 exact⟨rfl,rfl⟩
theorem mI (v1 v2:Value)(a b:Nat)(hl:(ae a).length≤1000000)(w:World)(h1:Rd .u32 w v1 (ae a))(h2:Rd .u32 w v2 (ae b)) :
 CR 49 #[v1,v2] w (.int .i64 (cmpN a b)):=by
 by_cases hne:(ae a).length=(ae b).length
 · by_cases h0:(ae a).length=0
   · have ha:a=0:=by have:=aB a;rw[List.length_eq_zero_iff.1 h0]at this;exact this.symm
     have hb:b=0:=by have:=aB b;rw[List.length_eq_zero_iff.1 (show(ae b).length=0 by omega)]at this;exact this.symm
     obtain⟨a1,c1,rfl⟩:=aU h1;obtain⟨a2,c2,rfl⟩:=aU h2;rw[← hne,h0];exact(z0T a1 a2 c1 c2 w).mono fun e w' ⟨g1,g2⟩=>⟨by rw[g1,ha,hb,qI],g2▸Below.refl _ _⟩
   · obtain⟨b1,o1,c1,rfl,_,_,_,r1⟩:=dD h1 (by omega)
     obtain⟨b2,o2,c2,rfl,_,_,_,r2⟩:=dD h2 (by omega);have:=z0S b1 o1 c1 b2 o2 c2 (ae a) (ae b) hne (aQ a) (aQ b) hl w r1 r2;rw[aB,aB]at this;rw[← hne];exact this
 · obtain⟨a1,c1,rfl⟩:=aU h1
   obtain⟨a2,c2,rfl⟩:=aU h2;refine(z2J a1 a2 _ _ c1 c2 hne w).mono fun e w' ⟨g1,g2⟩=>⟨?_,g2▸Below.refl _ _⟩;rw[g1];refine dB ?_;rcases Nat.lt_or_ge (ae a).length (ae b).length with h|h
   · rw[fD h,fD (dP h)]
   · have h':(ae b).length<(ae a).length:=by omega
     rw[ik h',ik (dP h')]
end Go.Proofs.YtlgkolkcokaefaaGreatDoor
open Go.Lib (hid)
namespace Go.Gb
def GJ (p2 p1 p0 v1 v0 g r:Nat):Prop:=(r<BB∧GI p2 p1 p0 v1 v0 g r)∨(BB≤r∧r<2*BB∧GOK p2 p1 p0 v1 v0 g)
theorem GJ.start {p2 p1 p0 v1 v0:Nat}(hv1:500000000≤v1)(hv1':v1<BB)(hp1:p1<BB)(hp0:p0<BB)(hp2:p2≤v1):GJ p2 p1 p0 v1 v0 ((p2*BB+p1) / v1) ((p2*BB+p1)%v1):=by
 have h:=GI.start (v0:=v0) hv1 hv1' hp1 hp0 hp2;exact Or.inl ⟨h.2.2.1,h⟩
theorem GJ.bound {p2 p1 p0 v1 v0 g r:Nat}(h:GJ p2 p1 p0 v1 v0 g r):g≤BB+1∧r<2*BB:=by
 rcases h with⟨h1,h2⟩|⟨h1,h2,h3⟩
 · exact⟨h2.2.1,by have:=bH;omega⟩
 · exact⟨by have:=h3.1;omega,h2⟩
theorem GJ.great {p2 p1 p0 v1 v0 g r:Nat}(h:GJ p2 p1 p0 v1 v0 g r)(hr:BB≤r):GOK p2 p1 p0 v1 v0 g:=by
 rcases h with⟨h1,h2⟩|⟨h1,h2,h3⟩
 · omega
 · exact h3
theorem GJ.fin {p2 p1 p0 v1 v0 g r:Nat}(h:GJ p2 p1 p0 v1 v0 g r)(hg:g<BB)(ht:g*v0≤r*BB+p0):GOK p2 p1 p0 v1 v0 g:=by
 rcases h with⟨h1,h2⟩|⟨h1,h2,h3⟩
 · exact h2.fin hg ht
 · exact h3
theorem GJ.less {p2 p1 p0 v1 v0 g r:Nat}(h:GJ p2 p1 p0 v1 v0 g r)(hv1:v1<BB)(hv0:v0<BB)(hp1:p1<BB)(hp2:p2≤v1)(hr:r<BB)(ht:BB≤g∨r*BB+p0<g*v0):0<g∧GJ p2 p1 p0 v1 v0 (g-1) (r+v1):=by
 rcases h with⟨h1,h2⟩|⟨h1,h2,h3⟩
 · have hgp:0<g:=by
    rcases Nat.eq_zero_or_pos g with h0|h0
    · rcases ht with ht|ht
      · have:=bH;omega
      · rw[h0,Nat.zero_mul]at ht;omega
    · exact h0
   have hne:∀ q,q<BB→q*(v1*BB+v0)≤(p2*BB+p1)*BB+p0→q≠g:=by
    rcases ht with ht|ht
    · exact GI.big ht
    · exact h2.test ht
   refine⟨hgp,?_⟩;by_cases hl:r+v1<BB
   · exact Or.inl ⟨hl,h2.less hne hgp hl⟩
   · exact Or.inr ⟨by omega,by omega,h2.last hv0 hp1 hp2 hne hgp (by omega)⟩
 · omega
theorem z1J {m:Nat}{D:List Nat}(h1:m≤D.length)(h2:D.length≤m+1):(D++[0,0]).take (m+1)=D++List.replicate (m+1-D.length) 0:=by
 rw[List.take_append,List.take_of_length_le h2];congr 1
 rcases Nat.lt_or_ge D.length (m+1) with h|h
 · rw[show m+1-D.length=1 by omega];rfl
 · rw[show m+1-D.length=0 by omega];rfl
end Go.Gb
namespace Go.Proofs.YtlgkolkcokaefaaGreatDoor
open Go.RowKit Go.Gb
theorem lL (v1 v2:Value)(a b:Nat)(hla:(ae a).length≤100000)(hlb:(ae b).length≤100000)(w:World)(h1:Rd .u32 w v1 (ae a))(h2:Rd .u32 w v2 (ae b)) :
 Calls Tryz.prog 83 #[v1,v2] w fun e w'=>∃ v,e=.returned v∧Own .u32 89 w.heap.size w' v (ae (a*b))∧Below w.heap.size w w':=by
 by_cases ha:a=0
 · subst ha
   rw[Nat.zero_mul,aP];rw[aP]at h1;obtain⟨p1,c1,rfl⟩:=aU h1;obtain⟨p2,c2,rfl⟩:=aU h2;clear h1 h2;simp only[List.length_nil];go_enter func83,ntmps83
   go_wp2;go_ret
   exact⟨_,rfl,Own.nil _ _ _ _,Below.refl _ _⟩
 · by_cases hb:b=0
   · subst hb
     rw[Nat.mul_zero,aP];rw[aP]at h2;obtain⟨p1,c1,rfl⟩:=aU h1;obtain⟨p2,c2,rfl⟩:=aU h2;have hp:0<(ae a).length:=List.length_pos_iff.2 (by rw[bI ha];simp);have d1:(((ae a).length:Int)==0)=false:=beq_eq_false_iff_ne.2 (by omega);clear h1 h2 ha;simp only[List.length_nil];generalize (ae a).length=n at *;go_enter func83,ntmps83
     go_wp2;go_ret
     exact⟨_,rfl,Own.nil _ _ _ _,Below.refl _ _⟩
   · have hpa:0<(ae a).length:=List.length_pos_iff.2 (by rw[bI ha];simp)
     have hpb:0<(ae b).length:=List.length_pos_iff.2 (by rw[bI hb];simp);obtain⟨b1,o1,c1,rfl,_,_,k1,r1⟩:=dD h1 hpa;obtain⟨b2,o2,c2,rfl,_,_,k2,r2⟩:=dD h2 hpb;have h:=uY b1 o1 c1 b2 o2 c2 (ae a) (ae b) hpa hpb hla hlb (aQ a) (aQ b) w k1 k2 r1 r2;rw[aB,aB]at h;exact h
theorem z0J (w:World)(u v:Value)(T:TypeId):∀ j x,[u,v][j]? = some x→(w.alloc (.cells #[u,v] T)).cell? ((⟨w.heap.size,0,none⟩:Addr).add j)=some x:=by
 intro j x hj
 match j,hj with
 | 0,hj=>simp at hj;subst hj;simp[Addr.add]
 | 1,hj=>simp at hj;subst hj;simp[Addr.add]
theorem yt (v1 v2:Value)(a b:Nat)(hab:a<b)(hl:(ae a).length≤100000)(w:World)(h1:Rd .u32 w v1 (ae a))(h2:Rd .u32 w v2 (ae b)) :
 Calls Tryz.prog 72 #[v1,v2] w fun e w'=>∃ q r,e=.returned (.tuple #[q,r])∧Rd .u32 w' q (ae (a / b))∧Rd .u32 w' r (ae (a%b))∧Below w.heap.size w w':=by
 have hc:=mI v1 v2 a b (by omega) w h1 h2;rw[fD hab]at hc;have HC:=hid hc;have H1:=hid h1;rw[Nat.div_eq_of_lt hab,Nat.mod_eq_of_lt hab,aP];clear hc h1 h2;go_enter func72,ntmps72
 go_wp2_with fail
 refine HC.out.mono ?_;rintro e w1 ⟨rfl,hb1⟩;have HB1:=hid hb1;clear hb1;go_wp2;go_ret2
 exact⟨_,v1,rfl,Or.inl ⟨rfl,rfl⟩,H1.out.below HB1.out,HB1.out⟩
theorem yn (v1 v2:Value)(a b:Nat)(hab:b≤a)(hlb:(ae b).length=1)(hl:(ae a).length≤100000)(w:World)(h1:Rd .u32 w v1 (ae a))(h2:Rd .u32 w v2 (ae b)) :
 Calls Tryz.prog 72 #[v1,v2] w fun e w'=>∃ q r,e=.returned (.tuple #[q,r])∧Rd .u32 w' q (ae (a / b))∧Rd .u32 w' r (ae (a%b))∧Below w.heap.size w w':=by
 have hc:=mI v1 v2 a b (by omega) w h1 h2;have hcc:(0:Int)≤cmpN a b:=by unfold cmpN;split<;>(try split)<;>omega
 have hb0:b≠0:=by intro h;rw[h,aP]at hlb;simp at hlb
 have hbB:b<BB:=by have:=dm b;rw[hlb,Nat.pow_one]at this;exact this
 obtain⟨b2,o2,c2,rfl,_,_,k2,r2⟩:=dD h2 (by omega);have hcb:=r2 0 (by omega);have hd:(ae b).getD 0 0=b:=by rw[bI hb0,List.getD_cons_zero,Nat.mod_eq_of_lt hbB]
 rw[hd,Nat.add_zero]at hcb;rw[hlb]at hc ⊢;obtain⟨m,hm⟩:∃ m,m=a%b:=⟨_,rfl⟩;rw[← hm];have HMM:=hid hm;clear hm;generalize cmpN a b=cc at *;obtain ⟨HC,H1,HCB,Hb0,HbB⟩:=aO hc h1 hcb hb0 hbB;have k3:(b:Int)≤999999999:=by rw[aJ]at hbB;omega
 clear hc h1 h2 r2 hd hlb hcb hb0 hbB hab;go_enter func72,ntmps72
 go_wp2_with fail
 refine HC.out.mono ?_;rintro e w1 ⟨rfl,hb1⟩;have HB1:=hid hb1;have hcb1:=(hb1.cell (p:=⟨b2,o2,none⟩) k2).trans HCB.out;have hs:=oW v1 a b (by have:=Hb0.out;omega) HbB.out hl w1 (H1.out.below hb1);rw[← HMM.out]at hs;have HS:=hid hs;clear hs hb1;go_wp2_with fail
 refine HS.out.mono ?_;rintro e w2 ⟨q,rfl,hq,hb2⟩;have HB2:=hbt HB1 hb2;have HQ:=hid hq;have HM:=hid (uZ m (by have h9:=HbB.out;rw[aJ]at h9;have:=Nat.mod_lt a (show 0<b by have:=Hb0.out;omega);have:=HMM.out;omega) w2);clear hb2 hq hcb1;go_wp2_with fail
 refine HM.out.mono ?_;rintro e w3 ⟨r,rfl,hr,hb3⟩;have HB3:=hbt HB2 hb3;have HR:=hid hr.rd;have HQ3:=hid ((HQ.out.below hb3).rd);clear hb3 hr;go_wp2;go_ret2
 exact⟨q,r,rfl,HQ3.out,HR.out,HB3.out⟩
open Go.RowKit
abbrev CL (f : FuncId) (args : Array Value) (v : Value) : Prop := ∀ W, La W → Calls Tryz.prog f args W fun e w' => e = .returned v ∧ Below W.heap.size W w'
end Go.Proofs.YtlgkolkcokaefaaGreatDoor
namespace Go.Proofs.YtlgkolkcokaefaaGreatDoor
open Go.ChangeShapes Go.WideShapes Go.ChangeAt Go.WideMaps Go.WideElems Go.RowKit
theorem z3G:Tryz.prog.globalNamed "garboard/integer.zero" = some 1:=by kernel_rfl
theorem z0l:(Tryz.prog.globals[1]?).map (·.type)=some 155:=by kernel_rfl
def jh:List (String × DataW Unit):=[("math/bits.deBruijn32tab",Rows.laid_math_bits_deBruijn32tab),("math/bits.deBruijn64tab",Rows.laid_math_bits_deBruijn64tab),("internal/strconv.uint64pow10",Rows.laid_internal_strconv_uint64pow10),("strconv.ErrRange",Rows.laid_strconv_ErrRange),("strconv.ErrSyntax",Rows.laid_strconv_ErrSyntax),("garboard/integer.zero",Rows.laid_garboard_integer_zero)]
theorem xN {W:World}(h:laidMetH Tryz.prog jh W):La W:=by
 rw[MakeChecks.laidMetH_plain _ _ _ (by kernel_rfl)]at h;obtain⟨ps,⟨g0,t0,cs0,f0,p0,q0,hg0,ht0,hv0,hd0,⟨g1,t1,cs1,f1,p1,q1,hg1,ht1,hv1,hd1,⟨g2,t2,cs2,f2,p2,q2,hg2,ht2,hv2,hd2,⟨g3,t3,cs3,f3,p3,q3,hg3,ht3,hv3,hd3,⟨g4,t4,cs4,f4,p4,q4,hg4,ht4,hv4,hd4,⟨g5,t5,cs5,f5,p5,q5,hg5,ht5,hv5,hd5,_,_⟩,_⟩,_⟩,_⟩,_⟩,_⟩,_,_⟩:=h;obtain rfl:=Option.some.inj (gTab.symm.trans hg2);obtain rfl:=Option.some.inj (wK.symm.trans ht2);obtain rfl:=Option.some.inj (z3G.symm.trans hg5);obtain rfl:=Option.some.inj (z0l.symm.trans ht5);refine⟨?_,?_⟩
 · unfold Tb Lib.TabIs
   rw[hv2];congr 1
   apply Array.ext'
   rw[Lib.cells_of_tab (k:=.u64) (zs:=Lib.pow10Tab) underlying237 underlying110 wR wS hd2]
 · obtain⟨k0,k1,hu,e0,o0,e1,o1⟩:∃ k0 k1:Field,Tryz.prog.underlying 155=some (.struct #[k0,k1])∧k0.type=3∧k0.offset=0∧k1.type=9∧k1.offset=1:=⟨_,_,underlying155,rfl,rfl,rfl,rfl⟩
   obtain⟨y0,y1,n,hx,hlen,h0,h1⟩:=trod_struct2 hu hd5;rw[e0,o0]at h0;rw[e1,o1]at h1;obtain⟨m,hc0,hy0,_⟩:=DataW.trod_int underlying3 h0;obtain⟨s,hc1,hy1,_⟩:=DataW.trod_string underlying9 h1;subst hy0 hy1;have hc:Tryz.prog.cellsOf 155=2:=by kernel_rfl
   have hci:Tryz.prog.cellsOf 3=1:=by kernel_rfl
   have hcs:Tryz.prog.cellsOf 9=1:=by kernel_rfl
   rw[hc]at hlen;rw[hci]at hc0;rw[hcs]at hc1
   have hd:m=0∧s.data.toList=[48]:=by
    have:=congrArg Prod.fst hx;simpa [Rows.laid_garboard_integer_zero,eq_comm] using this
   obtain⟨rfl,hs⟩:=hd
   have hs':s=⟨#[48]⟩:=by
    cases s with
    | mk d=>exact congrArg ByteArray.mk (Array.ext' hs)
   subst hs'
   have hl:cs5.toList=[.int .i64 0,.string ⟨#[48]⟩]:=by
    match hcs5:cs5.toList,hlen with
    | [a,b],_ =>
      rw[hcs5]at hc0 hc1;simp at hc0 hc1
      rw[hc0,hc1]
   have g0':=World.var?_cell z3G hv5 0;have g1':=World.var?_cell z3G hv5 1;have ha:cs5=#[.int .i64 0,.string ⟨#[48]⟩]:=Array.ext' hl;rw[ha]at g0' g1';have c0:W.cell? ⟨1,0,none⟩=some (.int .i64 0):=by simpa using g0'
   have c1:W.cell? ⟨1,1,none⟩=some (.string ⟨#[48]⟩):=by simpa using g1'
   exact⟨World.block_lt_of_cell? W _ c0,c0,c1⟩
theorem z0x (os:Os)(args:Array Value):laidMetH Tryz.prog jh ((World.doorLaid Tryz.prog 4000 os).forCall (fun _ _=>0) ⟨#[],args,[]⟩).memory:=by
 rw[MakeChecks.laidMetH_plain _ _ _ (by kernel_rfl)];exact laidMet_of_run' 8 (by kernel_rfl) (by kernel_rfl)
end Go.Proofs.YtlgkolkcokaefaaGreatDoor
namespace Go.Proofs.YtlgkolkcokaefaaGreatDoor
open Go.ChangeShapes Go.WideShapes Go.ChangeAt Go.WideMaps Go.WideElems Go.RowKit Go.Gb Go.Joins
open Go.ChangeMaps (open_string shut_string)
theorem z1K {H:Type}{enc:TypeId × Value→H}{W:World}{base b0:Nat}{spare:Nat→Bool}{held:Bool}{r:Reach}{v:Value}{d:DataW H}{p:List MemPlace}
 (hv:Value.okWide Tryz.prog W r b0 29 v) (h:DataW.Trod enc Tryz.prog W base spare held 29 v d p) :
 ∃ x y z:ByteArray,v=.agg #[.string x,.string y,.string z]∧d=.agg [.lit (.string x.data.toList),.lit (.string y.data.toList),.lit (.string z.data.toList)]∧p=[]∧x.size≤maxLen∧y.size≤maxLen∧z.size≤maxLen:=by
 obtain⟨c0,c1,c2,y0,y1,y2,m,rfl,rfl,rfl,hy0,hy1,hy2⟩:=open_agg3 underlying29 (by kernel_rfl) (by kernel_rfl) hv h;obtain⟨x,e0,rfl,wx⟩:=DataW.trod_string underlying22 hy0;obtain⟨y,e1,rfl,wy⟩:=DataW.trod_string underlying22 hy1;obtain⟨z,e2,rfl,wz⟩:=DataW.trod_string underlying22 hy2;simp at e0 e1 e2
 subst e0 e1 e2;exact⟨x,y,z,rfl,rfl,rfl,wx,wy,wz⟩
theorem z1r {H:Type}{enc:TypeId × Value→H}{W:World}{base:Nat}{spare:Nat→Bool}{held:Bool}{x y z:ByteArray}(hx:x.size≤maxLen)(hy:y.size≤maxLen)(hz:z.size≤maxLen) :
 DataW.Trod enc Tryz.prog W base spare held 29 (.agg #[.string x,.string y,.string z]) (.agg [.lit (.string x.data.toList),.lit (.string y.data.toList),.lit (.string z.data.toList)]) [] :=
 shut_agg3 (y0:=(.lit (.string x.data.toList),[])) (y1:=(.lit (.string y.data.toList),[])) (y2:=(.lit (.string z.data.toList),[])) underlying29 (by kernel_rfl) (by kernel_rfl) ⟨1,by simp[DataW.trod,underlying22,hx]⟩ ⟨1,by simp[DataW.trod,underlying22,hy]⟩ ⟨1,by simp[DataW.trod,underlying22,hz]⟩
theorem z1L {H:Type}{enc:TypeId × Value→H}{W:World}{base b0:Nat}{spare:Nat→Bool}{held:Bool}{r:Reach}{v:Value}{d:DataW H}{p:List MemPlace}
 (hv:Value.okWide Tryz.prog W r b0 24 v) (h:DataW.Trod enc Tryz.prog W base spare held 24 v d p) :
 ∃ l u:ByteArray,v=.agg #[.string l,.string u]∧d=.agg [.lit (.string l.data.toList),.lit (.string u.data.toList)]∧p=[]∧l.size≤maxLen∧u.size≤maxLen:=by
 obtain⟨c0,c1,y0,y1,m,rfl,rfl,rfl,hy0,hy1⟩:=open_agg2 underlying24 (by kernel_rfl) (by kernel_rfl) hv h;obtain⟨l,e0,rfl,wl⟩:=DataW.trod_string underlying22 hy0;obtain⟨u,e1,rfl,wu⟩:=DataW.trod_string underlying22 hy1;simp at e0 e1
 subst e0 e1;exact⟨l,u,rfl,rfl,rfl,wl,wu⟩
theorem z1s {H:Type}{enc:TypeId × Value→H}{W:World}{base:Nat}{spare:Nat→Bool}{held:Bool}{l u:ByteArray}(hl:l.size≤maxLen)(hu:u.size≤maxLen) :
 DataW.Trod enc Tryz.prog W base spare held 24 (.agg #[.string l,.string u]) (.agg [.lit (.string l.data.toList),.lit (.string u.data.toList)]) [] :=
 shut_agg2 (y0:=(.lit (.string l.data.toList),[])) (y1:=(.lit (.string u.data.toList),[])) underlying24 (by kernel_rfl) (by kernel_rfl) ⟨1,by simp[DataW.trod,underlying22,hl]⟩ ⟨1,by simp[DataW.trod,underlying22,hu]⟩
