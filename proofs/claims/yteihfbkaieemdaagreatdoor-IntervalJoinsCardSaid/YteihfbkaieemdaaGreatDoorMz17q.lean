/- texts -/
import Derived.Test.YteihfbkaieemdaaGreatDoorMz16q
open Go.Proofs.Tryz
set_option maxRecDepth 100000
set_option maxHeartbeats 20000000
open Go.Lib (hid)
namespace Go.Proofs.YteihfbkaieemdaaGreatDoor
open Go.RowKit Go.Gb
theorem Blk4.alloc {w:World}(zs:List Nat)(cs:Array Value)(h:cs=(cls .u32 zs).toArray):Blk4 (w.alloc (.cells cs 95)) w.heap.size zs:=by
 unfold Blk4
 rw[heap_alloc_new,h]
theorem sO (zs:List Nat)(hB:∀ z∈zs,z<BB)(hl:zs.length≤10)(cs:Array Value)(h:cs=(cls .u32 zs).toArray)(n:Nat)(hn:n=zs.length)(w:World) :
 Calls Tryz.prog 111 #[.slice (some ⟨w.heap.size,0,none⟩) n n] (w.alloc (.cells cs 95)) fun e w'=>∃ v',e=.returned v'∧Own .u32 95 w.heap.size w' v' (ae (aj zs))∧w.alloc (.cells cs 95)=w':=by
 subst hn;exact(ic 95 w.heap.size _ zs hB _ ((Blk4.alloc zs cs h).own (Nat.le_refl _) (by unfold maxLen;omega))).mono fun e w' ⟨v',h1,h2,h3⟩=>⟨v',h1,h3▸h2,h3⟩
theorem wz (n:Nat)(hn:n<4294967296)(w:World) :
 Calls Tryz.prog 76 #[.int .u32 (n:Int)] w fun e w'=>∃ v,e=.returned v∧Own .u32 95 w.heap.size w' v (ae n)∧Below w.heap.size w w':=by
 obtain⟨lo,hlo⟩:∃ lo,lo=n%BB:=⟨_,rfl⟩;obtain⟨hi,hhi⟩:∃ hi,hi=n / BB:=⟨_,rfl⟩;have e1:(n:Int)%1000000000=(lo:Int):=by rw[hlo,aG];omega
 have e2:(n:Int) / 1000000000=(hi:Int):=by rw[hhi,aG];omega
 have htr:=sO [lo,hi] (by intro z hz;simp at hz;rcases hz with rfl|rfl;· rw[hlo];exact Nat.mod_lt _ bP
                          · rw[hhi,Nat.div_lt_iff_lt_mul bP,aG];omega) (by simp) #[.int .u32 (lo:Int),.int .u32 (hi:Int)] (by simp[cls]) 2 rfl w
 rw[show aj [lo,hi]=n by simp only[aj,Nat.mul_zero,Nat.add_zero];rw[hlo,hhi];exact Nat.mod_add_div _ _]at htr;have HTR:=hid htr;have k1:(n:Int)≤4294967295:=by omega
 have k2:(lo:Int)≤999999999:=by rw[aG]at hlo;omega
 have k3:(hi:Int)≤4:=by rw[aG]at hhi;omega
 clear htr hlo hhi hn;go_enter func76,ntmps76
 go_wp2_with fail
 refine HTR.o.mono ?_;rintro e w2 ⟨v',rfl,hown,rfl⟩;go_wp2;go_ret
 exact⟨v',rfl,hown,(Below.refl _ _).alloc (Nat.le_refl _) _⟩
theorem z5Q (n:Nat)(hn:n<18446744073709551616)(w:World) :
 Calls Tryz.prog 137 #[.int .u64 (n:Int)] w fun e w'=>∃ v,e=.returned v∧Own .u32 95 w.heap.size w' v (ae n)∧Below w.heap.size w w':=by
 obtain⟨a,ha⟩:∃ a,a=n%BB:=⟨_,rfl⟩;obtain⟨q,hq⟩:∃ q,q=n / BB:=⟨_,rfl⟩;obtain⟨b,hb⟩:∃ b,b=q%BB:=⟨_,rfl⟩;obtain⟨c,hc⟩:∃ c,c=q / BB:=⟨_,rfl⟩;have e1:(n:Int)%1000000000=(a:Int):=by rw[ha,aG];omega
 have e2:(n:Int) / 1000000000=(q:Int):=by rw[hq,aG];omega
 have e3:(q:Int)%1000000000=(b:Int):=by rw[hb,aG];omega
 have e4:(q:Int) / 1000000000=(c:Int):=by rw[hc,aG];omega
 have k2:(a:Int)≤999999999:=by rw[aG]at ha;omega
 have k3:(b:Int)≤999999999:=by rw[aG]at hb;omega
 have k5:(q:Int)≤18446744073:=by rw[aG]at hq;omega
 have k4:(c:Int)≤18:=by rw[aG]at hc;omega
 have htr:=sO [a,b,c] (by intro z hz;simp at hz;rw[aG];rcases hz with rfl|rfl|rfl<;>omega) (by simp) #[.int .u32 (a:Int),.int .u32 (b:Int),.int .u32 (c:Int)] (by simp[cls]) 3 rfl w
 rw[show aj [a,b,c]=n by
  simp only[aj,Nat.mul_zero,Nat.add_zero]
  rw[hb,hc,Nat.mod_add_div,ha,hq,Nat.mod_add_div]]at htr
 have HTR:=hid htr;have k1:(n:Int)≤18446744073709551615:=by omega
 clear htr ha hq hb hc hn;go_enter func137,ntmps137
 go_wp2_with fail
 refine HTR.o.mono ?_;rintro e w2 ⟨v',rfl,hown,rfl⟩;go_wp2;go_ret
 exact⟨v',rfl,hown,(Below.refl _ _).alloc (Nat.le_refl _) _⟩
theorem z5l (v:Value)(a:Nat)(hl:(ae a).length≤2)(w:World)(h:Rd .u32 w v (ae a)) :
 Calls Tryz.prog 136 #[v] w fun e w'=>e=.returned (.int .u64 (a:Int))∧w=w':=by
 obtain⟨p,c,rfl,r⟩:=h.gen;have hv:=aA a;have hB:=aU a;generalize ae a=xs at *
 match xs,hl with
 | [],_ =>
   have h0:a=0:=by rw[← hv];rfl
   subst h0;clear hv hB r h hl;simp only[List.length_nil];go_enter func136,ntmps136
   go_wp2;refine wp_loop_rounds 1 ?_;rw[rounds_succ];go_wp2;go_ret
   exact⟨rfl,rfl⟩
 | [x],_ =>
   have h0:a=x:=by rw[← hv];simp[aj]
   have hx:=hB x (by simp);rw[aG]at hx;subst h0;obtain⟨b,o,rfl,hb,hc⟩:=r 0 (by simp);simp only[List.getD_cons_zero,Nat.add_zero]at hc;have k1:(a:Int)≤999999999:=by omega
   clear hv hB r h hl hb hx;simp only[List.length_cons,List.length_nil];go_enter func136,ntmps136
   go_wp2;refine wp_loop_rounds 2 ?_;rw[rounds_succ];go_wp2;rw[rounds_succ];go_wp2;go_ret
   exact⟨rfl,rfl⟩
 | [x,y],_ =>
   have hx:=hB x (by simp);have hy:=hB y (by simp);have h0:a=x+1000000000*y:=by rw[← hv];simp only[aj,Nat.mul_zero,Nat.add_zero];rw[aG]
   rw[aG]at hx hy;obtain⟨b,o,rfl,hb,hc⟩:=r 0 (by simp);obtain⟨b',o',hp,hb',hc'⟩:=r 1 (by simp);injection hp with hp
   injection hp with e1 e2 e3
   subst e1 e2;simp only[List.getD_cons_zero,List.getD_cons_succ,Nat.add_zero]at hc hc';have k1:(x:Int)≤999999999:=by omega
   have k2:(y:Int)≤999999999:=by omega
   have H0:=hid h0;clear hv hB r h hl hb hb' hx hy h0;simp only[List.length_cons,List.length_nil];go_enter func136,ntmps136
   go_wp2;refine wp_loop_rounds 3 ?_;rw[rounds_succ];go_wp2;rw[rounds_succ];go_wp2;rw[rounds_succ];go_wp2;go_ret
   exact⟨dQ (by have:=H0.o;omega),rfl⟩
 | _ :: _ :: _ :: _,hl=>simp at hl
theorem q9 (v1:Value)(a d:Nat)(hd:0<d)(hdB:d<BB)(hl:(ae a).length≤100000)(w:World)(h1:Rd .u32 w v1 (ae a)) :
 Calls Tryz.prog 138 #[v1,.int .u32 (d:Int)] w fun e w'=>∃ v,e=.returned (.tuple #[v,.int .u32 ((a%d:Nat):Int)])∧Own .u32 95 w.heap.size w' v (ae (a / d))∧Below w.heap.size w w':=by
 obtain⟨i0,hi,hz0,hz1,hz2⟩:=info_parts Tryz.info95;obtain⟨p,c,rfl,r1⟩:=h1.gen;have hv:=aA a;have hx:=aU a;generalize ae a=xs at *;obtain ⟨HX,HV,HR⟩:=ak hx hv r1;have hd1:(1:Int)≤(d:Int):=by omega
 have hd2:(d:Int)≤999999999:=by rw[aG]at hdB;omega
 have hdz:((d:Int)==0)=false:=beq_eq_false_iff_ne.2 (by omega);have HD:=hid hd;clear h1 hx hv r1 hd hdB;go_enter func138,ntmps138
 go_wp2_with (at_make;refine wpList_make_full _ rfl _ _ 50 rfl w.heap.size 95 i0 (.int .u32 0) 1 underlying50 hi hz0 hz1 _ _ _ _ xs.length rfl rfl (by omega) (by omega) ?b2 ?b3 (Nat.le_refl _) ?_)
 case b2=>rw[hz2];omega
 case b3=>unfold maxLen;omega
 intro w0 hown0 hgrow0;have wu:=hid (show Blk4 w0 w.heap.size (List.replicate xs.length 0) from Blk4.of_made hown0 (jh _));have HN0:=hid ((Below.refl w.heap.size w).grown hgrow0 (Nat.le_refl _) (fun k h=>by cases h));clear hown0 hgrow0;go_wp2;go_loopw [7,8] (fun rr ii wr=>∃ (z:Int) (r:Nat) (os:List Nat),-1≤z∧z<xs.length∧ii=.int .i64 z∧rr=.int .u64 (r:Int)∧Hid (rW xs os d (z+1).toNat r)∧Hid (Blk4 wr w.heap.size (List.replicate (z+1).toNat 0++os))∧Hid (Below w.heap.size w wr)) (fun _ ii _=>(intOf ii+1).toNat)
 case atStart=>exact⟨(xs.length:Int)-1,0,[],by omega,by omega,rfl,rfl,by rw[show((xs.length:Int)-1+1).toNat=xs.length by omega];exact rW.start xs HD.o,by rw[show((xs.length:Int)-1+1).toNat=xs.length by omega,List.append_nil];exact wu,HN0⟩
 case round =>
  obtain⟨z,r,os,hz1',hz8,rfl,rfl,hI,hB,hn⟩:=hrel;by_cases hz:0≤z
  · obtain⟨j,rfl⟩:=Int.eq_ofNat_of_zero_le hz
    have hj:j<xs.length:=by omega
    have hI':=hI.o;have hB':=hB.o;rw[show((j:Int)+1).toNat=j+1 by omega]at hI' hB';obtain⟨b1,o1,rfl,hb1,hc1⟩:=HR.o j hj;have hcx:=(hn.o.cell (p:=⟨b1,o1+j,none⟩) hb1).trans hc1;have hxw:=HX.o _ (bf hj);have hst:=hI'.step hj HX.o;have hr:=hI'.2.2.1;rw[iW,List.append_assoc]at hB';have e1:(List.replicate j 0++([0]++os)).getD j 0=0:=by simp[List.getD]
    have hcell:=hB'.cell (i:=j) (by simp);have hfree:=hB'.free j;have hset:=hB'.set j ((r*BB+xs.getD j 0) / d);have e2:(List.replicate j 0++([0]++os)).set j ((r*BB+xs.getD j 0) / d)=List.replicate j 0++((r*BB+xs.getD j 0) / d :: os):=by simp
    rw[e1]at hcell;rw[e2]at hset;have hqB:=nU hr hxw;have hbel:=hn.o.setCell (p:=⟨w.heap.size,j,none⟩) (Nat.le_refl _) (.int .u32 (((r*BB+xs.getD j 0) / d:Nat):Int));obtain ⟨HS,HI,HBL⟩:=ak hset hst hbel;clear hI' hB' hst e1 e2 hset hbel hI hB hn hb1 hc1;generalize xs.getD j 0=x at *;rw[aG]at hxw;have hr2:r<999999999:=by omega
    obtain⟨q,hq⟩:∃ q,q=(r*BB+x) / d:=⟨_,rfl⟩;obtain⟨m,hm⟩:∃ m,m=(r*BB+x)%d:=⟨_,rfl⟩;rw[← hq]at hqB HS HI HBL;rw[← hm]at HI;have hqI:((r:Int)*1000000000+(x:Int)) / (d:Int)=(q:Int):=by rw[hq,aG];rfl
    have hmI:((r:Int)*1000000000+(x:Int))%(d:Int)=(m:Int):=by rw[hm,aG];rfl
    have k1:(x:Int)≤999999999:=by omega
    have k2:(r:Int)≤999999999:=by omega
    have k3:(q:Int)≤999999999:=by rw[aG]at hqB;omega
    clear hq hm hxw hr hr2 hqB;go_wp2;go_roundw
    case rel=>exact⟨(j:Int)-1,m,q :: os,by omega,by omega,rfl,dA hmI,by rw[show((j:Int)-1+1).toNat=j by omega];exact HI,by rw[show((j:Int)-1+1).toNat=j by omega];exact HS,HBL⟩
    case measure=>simp[intOf]
  · have hz0':(z+1).toNat=0:=by omega
    have hI':=hI.o;have hB':=hB.o;rw[hz0']at hI' hB';obtain⟨g1,g2,g3,g4⟩:=hI';rw[List.drop_zero,HV.o]at g4;rw[List.replicate_zero,List.nil_append]at hB';have hown:=Blk4.own hB' (Nat.le_refl _) (by unfold maxLen;omega);have hq:aj os=a / d:=by rw[g4,Nat.add_comm,Nat.add_mul_div_right _ _ HD.o,Nat.div_eq_of_lt g3,Nat.zero_add]
    have hm:r=a%d:=by rw[g4,Nat.add_comm,Nat.add_mul_mod_self_right,Nat.mod_eq_of_lt g3]
    have htr:=ic 95 w.heap.size _ os g2 wr hown;rw[g1,Nat.sub_zero,hq]at htr;obtain ⟨HTR,HM⟩:=aB htr hm;have k2:(r:Int)≤999999999:=by omega
    clear g1 g2 g3 g4 hB' hown hq htr hz0' hm;go_wp2_with fail
    refine HTR.o.mono ?_;rintro e w2 ⟨v',rfl,hown,rfl⟩;go_wp2;go_ret2
    exact⟨v',mq (by rw[HM.o]),hown,hn.o⟩
end Go.Proofs.YteihfbkaieemdaaGreatDoor
open Go.Lib (hid)
namespace Go.Gb
def RdI (xs vs:List Nat) (t:Nat) (ys:List Nat) (i C b:Nat):Prop:=SubI xs vs t ys i (C+b)∧C≤999999999∧b≤1
theorem RdI.start (xs vs:List Nat)(t:Nat):RdI xs vs t [] 0 0 0:=⟨SubI.start xs vs t,by omega,by omega⟩
theorem RdI.keep {xs vs ys:List Nat}{t i C b x v:Nat}(h:RdI xs vs t ys i C b)(ex:xs.getD i 0=x)(ev:vs.getD i 0=v)(ht:t<BB)(hv:v<BB)(hx:x<BB)(hle:(t*v+C)%BB+b≤x):RdI xs vs t (ys++[x-((t*v+C)%BB+b)]) (i+1) ((t*v+C) / BB) 0:=by
 obtain⟨h1,h2,h3⟩:=h;have hq:=(kI (t:=t) (v:=v) (c:=C) ht hv (by rw[aG];omega)).2;have hd:=Nat.div_add_mod (t*v+C) BB;have hqB:(t*v+C) / BB+1≤BB:=by rw[aG]at hq ⊢;omega
 refine⟨h1.next (by omega) (by omega) ?_,hq,by omega⟩;rw[ex,ev];generalize t*v=p at *;generalize (p+C) / BB=q at *;generalize (p+C)%BB=lo at *;rw[Nat.add_zero];omega
theorem RdI.borrow {xs vs ys:List Nat}{t i C b x v:Nat}(h:RdI xs vs t ys i C b)(ex:xs.getD i 0=x)(ev:vs.getD i 0=v)(ht:t<BB)(hv:v<BB)(hlt:x<(t*v+C)%BB+b):RdI xs vs t (ys++[x+BB-((t*v+C)%BB+b)]) (i+1) ((t*v+C) / BB) 1:=by
 obtain⟨h1,h2,h3⟩:=h;have hq:=(kI (t:=t) (v:=v) (c:=C) ht hv (by rw[aG];omega)).2;have hd:=Nat.div_add_mod (t*v+C) BB;have hm:=Nat.mod_lt (t*v+C) bP;have hqB:(t*v+C) / BB+1≤BB:=by rw[aG]at hq ⊢;omega
 refine⟨h1.next (by omega) (by omega) ?_,hq,by omega⟩;rw[ex,ev];generalize t*v=p at *;generalize (p+C) / BB=q at *;generalize (p+C)%BB=lo at *;rw[Nat.mul_add];omega
end Go.Gb
namespace Go.Proofs.YteihfbkaieemdaaGreatDoor
open Go.RowKit Go.Gb
theorem vz {w w':World}{row:Option Nat}(h:w.grownBy w' row)(n:Nat):w.grownBy (w'.drewN n) row:=⟨h.os,h.tape,h.output,h.size,h.block⟩
theorem wh (g cap b2 o2 c2 n t A U:Nat)(pre xs post vs:List Nat)(hA:pre.length=A)(hU:(pre++(xs++post)).length=U)(hxl:xs.length=n+1)(hvl:vs.length=n)(hn:n≤100000)(hA9:A≤100000)(ht:t<BB)(hx:∀ x∈xs,x<BB)(hv:∀ v∈vs,v<BB)
 (hV0:0<aj vs) (hVn:aj vs<BB^n) (hg1:aj xs / aj vs≤t) (hg2:t≤aj xs / aj vs+1) (w:World)
 (hb:Row4 w g cap (pre++(xs++post))) (hb2:b2<w.heap.size) (hne:b2≠g) (hcv:∀ i,i<n→w.cell? ⟨b2,o2+i,none⟩=some (.int .u32 ((vs.getD i 0:Nat):Int))) :
 Calls Tryz.prog 139 #[.slice (some ⟨g,0,none⟩) U cap,.slice (some ⟨b2,o2,none⟩) n c2,.int .i64 (A:Int),.int .u64 (t:Int)] w fun e w' =>
  ∃ zs:List Nat,e=.returned (.int .u32 ((aj xs / aj vs:Nat):Int))∧zs.length=n+1∧(∀ z∈zs,z<BB)∧aj zs=aj xs%aj vs∧Row4 w' g cap (pre++(zs++post))∧w.grownBy w' (some g):=by
 obtain ⟨HX,HV,HB,HCV,HT,HXL,HVL,HA,HG⟩:=dG hx hv hb hcv ht hxl hvl hA (And.intro hg1 hg2);have HV0:=hid (And.intro hV0 hVn);have hUn:A+n<U:=by rw[← hU,← hA,List.length_append,List.length_append,hxl];omega
 have ht9:(t:Int)≤999999999:=by rw[aG]at ht;omega
 clear hx hv hb hcv ht hxl hvl hA hU hg1 hg2 hV0 hVn;go_enter func139,ntmps139
 go_wp2;go_loopw [10,11,12] (fun bb cc ii wr=>∃ (i C b:Nat) (ys:List Nat),i≤n∧ii=.int .i64 i∧cc=.int .u64 (C:Int)∧bb=.int .i64 (b:Int)∧Hid (RdI xs vs t ys i C b)∧Hid (Row4 wr g cap (pre++(ys++(xs.drop i++post))))∧Hid (w.grownBy wr (some g))) (fun _ _ ii _=>n-(intOf ii).toNat)
 case atStart=>exact⟨0,0,0,[],Nat.zero_le _,rfl,rfl,rfl,RdI.start xs vs t,HB,World.grownBy.refl _ _⟩
 case round =>
  obtain⟨i,C,b,ys,hi,rfl,rfl,rfl,hI,hB,hG⟩:=hrel;have hdr:=fD (xs:=xs) (i:=i) (by have:=HXL.o;omega);have hxw:=HX.o _ (bf (xs:=xs) (i:=i) (by have:=HXL.o;omega));have hB':=hB.o;rw[hdr,List.cons_append]at hB';have hyl:ys.length=i:=hI.o.1.1;have hcell:=hB'.cell (i:=pre.length+ys.length) (by simp);have hfree:=hB'.free (pre.length+ys.length);rw[nR]at hcell;rw[hyl,HA.o]at hcell hfree;have hC9:(C:Int)≤999999999:=by have:=hI.o.2.1;omega
  have hb1:(b:Int)≤1:=by have:=hI.o.2.2;omega
  have i3:(n:Int)≤100000:=by omega
  have i4:(A:Int)≤100000:=by omega
  have i5:(A:Int)+(n:Int)<(U:Int):=by omega
  have hi9:(i:Int)≤(n:Int):=by omega
  by_cases hlt:i<n
  · have hcv:=(j5 hG.o hb2 hne).trans (HCV.o i hlt)
    have hvw:=HV.o _ (bf (xs:=vs) (i:=i) (by have:=HVL.o;omega));have hpc:=kI (c:=C) HT.o hvw (by rw[aG];omega)
    have hset:∀ (z:Nat),Row4 (wr.setCell ⟨g,A+i,none⟩ (.int .u32 (z:Int))) g cap (pre++(ys++(z :: (xs.drop (i+1)++post)))):=by
        intro z;have:=hB'.set (pre.length+ys.length) z;rwa [jd,hyl,HA.o]at this
    have hkp:=fun x v (e1:xs.getD i 0=x) (e2:vs.getD i 0=v)=>hI.o.keep e1 e2 HT.o;have hbw:=fun x v (e1:xs.getD i 0=x) (e2:vs.getD i 0=v)=>hI.o.borrow e1 e2 HT.o;have HKP:=hid (hkp _ _ rfl rfl hvw hxw);have w9:=hid (hbw _ _ rfl rfl hvw);have HSET:=hid hset;clear hkp hbw hset hB' hdr hyl hB hI;generalize xs.getD i 0=x at *;generalize vs.getD i 0=v at *;obtain⟨p,hp⟩:∃ p:Nat,p=t*v:=⟨_,rfl⟩;have e1:(t:Int)*(v:Int)=(p:Int):=by rw[hp];exact(Int.natCast_mul _ _).symm
    rw[← hp]at hpc HKP w9;have w1:IntKind.u64.wrap (p:Int)=(p:Int):=IntWalk.u64_in _ (by omega);obtain⟨q,hq⟩:∃ q:Nat,q=(p+C) / BB:=⟨_,rfl⟩;obtain⟨lo,hlo⟩:∃ lo:Nat,lo=(p+C)%BB:=⟨_,rfl⟩;rw[← hq]at hpc HKP w9;rw[← hlo]at HKP w9;have hmod:((p:Int)+(C:Int))%1000000000=(lo:Int):=by rw[hlo,aG];omega
    have hdiv:((p:Int)+(C:Int)) / 1000000000=(q:Int):=by rw[hq,aG];omega
    have hlo2:(lo:Int)≤999999999:=by rw[aG]at hlo;omega
    have hx2:(x:Int)≤999999999:=by rw[aG]at hxw;omega
    have hv2:(v:Int)≤999999999:=by rw[aG]at hvw;omega
    have hp2:(p:Int)≤999999998000000001:=by omega
    have hq2:(q:Int)≤999999999:=by omega
    have i1:(i:Int)<(n:Int):=by omega
    clear hp hq hlo hpc hvw hxw;by_cases hle:lo+b≤x
    · obtain⟨y,hy⟩:∃ y:Nat,y=x-(lo+b):=⟨_,rfl⟩
      have hval:(x:Int)-(lo:Int)-(b:Int)=(y:Int):=by omega
      have hneg:decide ((y:Int)<0)=false:=decide_eq_false (by omega);have hy9:(y:Int)≤999999999:=by omega
      have HN:=hid (show RdI xs vs t (ys++[y]) (i+1) q 0 by rw[hy];exact HKP.o hle);obtain ⟨HS,HGG⟩:=aB (HSET.o y) (Lib.grownBy_setB hG.o (A+i) (.int .u32 (y:Int)));clear HKP w9 HSET hy hle hG;go_wp2;go_roundw
      case rel=>exact⟨i+1,q,0,ys++[y],by omega,by go_num,dA hdiv,rfl,HN,by rw[List.append_assoc];exact HS,HGG⟩
      case measure=>simp[intOf];omega
    · obtain⟨y,hy⟩:∃ y:Nat,y=x+BB-(lo+b):=⟨_,rfl⟩
      have hval:(x:Int)-(lo:Int)-(b:Int)+1000000000=(y:Int):=by rw[aG]at hy;omega
      have hneg:(x:Int)-(lo:Int)-(b:Int)<0:=by omega
      have hy9:(y:Int)≤999999999:=by omega
      have HN:=hid (show RdI xs vs t (ys++[y]) (i+1) q 1 by rw[hy];exact w9.o (by omega));obtain ⟨HS,HGG⟩:=aB (HSET.o y) (Lib.grownBy_setB hG.o (A+i) (.int .u32 (y:Int)));clear HKP w9 HSET hy hle hG;go_wp2;go_roundw
      case rel=>exact⟨i+1,q,1,ys++[y],by omega,by go_num,dA hdiv,rfl,HN,by rw[List.append_assoc];exact HS,HGG⟩
      case measure=>simp[intOf];omega
  · have hi':i=n:=by omega
    subst hi';have hd0:xs.drop (i+1)=[]:=List.drop_of_length_le (by have:=HXL.o;omega);rw[hd0,List.nil_append]at hB';have hlast:=fun(k y:Nat) (h2:y<BB) h3=>hI.o.1.last (y:=y) (k:=k) HVL.o HXL.o h2 h3
    have hset:∀ (z:Nat),Row4 (wr.setCell ⟨g,A+i,none⟩ (.int .u32 (z:Int))) g cap (pre++(ys++(z :: post))):=by
        intro z;have:=hB'.set (pre.length+ys.length) z;rwa [jd,hyl,HA.o]at this
    obtain ⟨HL,HSET,Hyl⟩:=ak hlast hset hyl;have hCb:=hI.o.2;have d1:decide ((i:Int)<(i:Int))=false:=decide_eq_false (by omega);clear hlast hset hB' hdr hyl hB hI hd0 hi9;generalize xs.getD i 0=x at *;have hx2:(x:Int)≤999999999:=by rw[aG]at hxw;omega
    by_cases hle:C+b≤x
    · obtain⟨y,hy⟩:∃ y:Nat,y=x-(C+b):=⟨_,rfl⟩
      have hval:(x:Int)-(C:Int)-(b:Int)=(y:Int):=by omega
      have hy0:(0:Int)≤(y:Int):=by omega
      have hy9:(y:Int)≤999999999:=by omega
      obtain⟨f1,f2,f3⟩:=HL.o 0 y (by rw[aG];omega) (by rw[hy];omega);obtain⟨s1,s2⟩:=pg HV0.o.1 HG.o.1 f3 rfl;obtain ⟨HF,HS1,HS,HGG⟩:=aL (And.intro f1 (And.intro f2 s2)) s1 (HSET.o y) (Lib.grownBy_setB hG.o (A+i) (.int .u32 (y:Int)));clear HL HSET hy hle hG f1 f2 f3 s1 s2 hCb hxw;go_wp2;go_ret
      exact⟨ys++[y],dQ (by rw[← HS1.o]),HF.o.1,HF.o.2.1,HF.o.2.2,by rw[List.append_assoc];exact HS.o,HGG.o⟩
    · obtain⟨y,hy⟩:∃ y:Nat,y=x+BB-(C+b):=⟨_,rfl⟩
      have hval:(x:Int)-(C:Int)-(b:Int)+1000000000=(y:Int):=by rw[aG]at hy;omega
      have hneg:decide (0≤(x:Int)-(C:Int)-(b:Int))=false:=decide_eq_false (by omega);have hneg2:decide ((b:Int)≤(x:Int)-(C:Int))=false:=decide_eq_false (by omega);have hy9:(y:Int)≤999999999:=by omega
      obtain⟨f1,f2,f3⟩:=HL.o 1 y (by rw[aG];omega) (by rw[hy];rw[aG]at *;omega);obtain⟨s1,s2,s3⟩:=oZ HV0.o.1 HG.o.1 HG.o.2 (bX f2 (Nat.le_of_eq f1)) f3;obtain ⟨HF,HS1⟩:=aB (And.intro f1 f2) (And.intro s1 (And.intro s2 s3))
      have HS0:=hid (show Row4 (wr.setCell ⟨g,A+i,none⟩ (.int .u32 (y:Int))) g cap (pre++([]++((ys++[y]).drop 0++post))) by
       have:=HSET.o y
       rw[List.nil_append,List.drop_zero,List.append_assoc];exact this)
      have HG0:=hid (Lib.grownBy_setB hG.o (A+i) (.int .u32 (y:Int)));have ht1:(1:Int)≤(t:Int):=by omega
      have hfr:=hfree;clear HL HSET hy hle hG f1 f2 f3 s1 s2 s3 hCb hxw;go_wp2;clear hcell;generalize wr.setCell ⟨g,A+i,none⟩ (.int .u32 (y:Int))=wx at *;go_loopw [16,17] (fun cc ii wr=>∃ (k c:Nat) (zs:List Nat),k≤i∧ii=.int .i64 k∧cc=.int .u32 (c:Int)∧Hid (dD (ys++[y]) vs zs k c)∧Hid (Row4 wr g cap (pre++(zs++((ys++[y]).drop k++post))))∧Hid (w.grownBy wr (some g))) (fun _ ii _=>i-(intOf ii).toNat)
      case atStart=>exact⟨0,0,[],Nat.zero_le _,rfl,rfl,dD.start _ _,HS0,HG0⟩
      case round =>
       clear HS0 HG0 hfr hfree;obtain⟨k,c,zs,hk,rfl,rfl,hI,hB,hG⟩:=hrel;have hdr:=fD (xs:=ys++[y]) (i:=k) (by have:=HF.o.1;omega);have hyw:=HF.o.2 _ (bf (xs:=ys++[y]) (i:=k) (by have:=HF.o.1;omega));have hB':=hB.o;rw[hdr,List.cons_append]at hB';have hzl:zs.length=k:=hI.o.1;have hcell:=hB'.cell (i:=pre.length+zs.length) (by simp);have hfree:=hB'.free (pre.length+zs.length);rw[nR]at hcell;rw[hzl,HA.o]at hcell hfree;have hc1:(c:Int)≤1:=by have:=hI.o.2.2.1;omega
       by_cases hlk:k<i
       · have hcv:=(j5 hG.o hb2 hne).trans (HCV.o k hlk)
         have hvw:=HV.o _ (bf (xs:=vs) (i:=k) (by have:=HVL.o;omega));have HN:=hid (hI.o.step hyw hvw)
         have hset:∀ (n z:Nat),Row4 ((wr.drewN n).setCell ⟨g,A+k,none⟩ (.int .u32 (z:Int))) g cap (pre++(zs++(z :: ((ys++[y]).drop (k+1)++post)))):=by
          intro n z;have:=(hB'.drewN n).set (pre.length+zs.length) z;rwa [jd,hzl,HA.o]at this
         have HSET:=hid hset;clear hset hB' hdr hzl hB hI;generalize (ys++[y]).getD k 0=x2 at *;generalize vs.getD k 0=v at *;obtain⟨lo,hlo⟩:∃ lo:Nat,lo=(x2+v+c)%BB:=⟨_,rfl⟩;obtain⟨q,hq⟩:∃ q:Nat,q=(x2+v+c) / BB:=⟨_,rfl⟩;rw[← hq,← hlo]at HN;have hmod:((x2:Int)+(v:Int)+(c:Int))%1000000000=(lo:Int):=by rw[hlo,aG];omega
         have hdiv:((x2:Int)+(v:Int)+(c:Int)) / 1000000000=(q:Int):=by rw[hq,aG];omega
         have hx3:(x2:Int)≤999999999:=by rw[aG]at hyw;omega
         have hv3:(v:Int)≤999999999:=by rw[aG]at hvw;omega
         have j1:(k:Int)<(i:Int):=by omega
         have HGG:=hid (fun n=>Lib.grownBy_setB (vz hG.o n) (A+k) (.int .u32 (lo:Int)));have HS:=hid (fun n=>HSET.o n lo);clear hlo hq hyw hvw HSET hG;go_wp2;go_quiet (fail)
         obtain ⟨HS2,HG2⟩:=aB (HS.o nq) (HGG.o nq);have hf2:(wr.drewN nq).frozen? ⟨g,A+k,none⟩=false:=hfree;have hc2':(wr.drewN nq).cell? ⟨g,A+k,none⟩=some (.int .u32 (x2:Int)):=hcell;clear HS HGG hcell hfree hcv;generalize wr.drewN nq=w2 at *;go_wp2;go_roundw
         case rel=>exact⟨k+1,q,zs++[lo],by omega,by go_num,dA (by omega),HN,by rw[List.append_assoc];exact HS2,HG2⟩
         case measure=>simp[intOf];omega
       · have hk':k=i:=by omega
         subst hk';have hyv:aj (ys++[y])=aj ((ys++[y]).take k)+BB^k*(ys++[y]).getD k 0:=by rw[← aJ,List.take_of_length_le (by have:=HF.o.1;omega)]
         have hgy:(ys++[y]).getD k 0=y:=by simp[List.getD,Hyl.o]
         obtain⟨f1,f2,f3,f4⟩:=hI.o;rw[List.take_of_length_le (show vs.length≤k by have:=HVL.o;omega)]at f4;have hzlt:aj zs<BB^k:=bX f2 (Nat.le_of_eq f1);have hrlt:aj xs%aj vs<BB^k:=Nat.lt_trans (Nat.mod_lt _ HV0.o.1) HV0.o.2;have s3:=HS1.o.2.2;rw[hyv,hgy,Nat.pow_succ]at s3;have hz:=uw hzlt hrlt f4.symm s3;have ht:=z2U hzlt hrlt f4.symm s3;have hd0:(ys++[y]).drop (k+1)=[]:=List.drop_of_length_le (by have:=HF.o.1;omega);rw[hd0,List.nil_append,hgy]at hB';rw[hgy]at hcell
         have hset:Row4 (wr.setCell ⟨g,A+k,none⟩ (.int .u32 ((0:Nat):Int))) g cap (pre++(zs++(0 :: post))):=by
          have:=hB'.set (pre.length+zs.length) 0;rwa [jd,hzl,HA.o]at this
         have hmod:((y:Int)+(c:Int))%1000000000=0:=by rw[aG]at ht;omega
         obtain ⟨HSET,HGG⟩:=aB hset (Lib.grownBy_setB hG.o (A+k) (.int .u32 ((0:Nat):Int)));have HZ:=hid (show aj (zs++[0])=aj xs%aj vs by rw[dP,Nat.mul_zero,Nat.add_zero];exact hz);have HZL:=hid (show(zs++[0]).length=k+1 by simp[f1]);have HZB:=hid (mX f2 bP);have d2:decide ((k:Int)<(k:Int))=false:=decide_eq_false (by omega);clear hset hB' hdr hzl hB hI hyv hgy f1 f2 f3 f4 hzlt hrlt s3 hz ht hd0 hyw hG;go_wp2;go_ret
         exact⟨zs++[0],dQ (by have:=HS1.o.1;omega),HZL.o,HZB.o,HZ.o,by rw[List.append_assoc];exact HSET.o,HGG.o⟩
end Go.Proofs.YteihfbkaieemdaaGreatDoor
open Go.Lib (hid)
namespace Go.Gb
def GJ (p2 p1 p0 v1 v0 g r:Nat):Prop:=(r<BB∧GI p2 p1 p0 v1 v0 g r)∨(BB≤r∧r<2*BB∧GOK p2 p1 p0 v1 v0 g)
theorem GJ.start {p2 p1 p0 v1 v0:Nat}(hv1:500000000≤v1)(hv1':v1<BB)(hp1:p1<BB)(hp0:p0<BB)(hp2:p2≤v1):GJ p2 p1 p0 v1 v0 ((p2*BB+p1) / v1) ((p2*BB+p1)%v1):=by
 have h:=GI.start (v0:=v0) hv1 hv1' hp1 hp0 hp2;exact Or.inl ⟨h.2.2.1,h⟩
theorem GJ.bound {p2 p1 p0 v1 v0 g r:Nat}(h:GJ p2 p1 p0 v1 v0 g r):g≤BB+1∧r<2*BB:=by
 rcases h with⟨h1,h2⟩|⟨h1,h2,h3⟩
 · exact⟨h2.2.1,by have:=bP;omega⟩
 · exact⟨by have:=h3.1;omega,h2⟩
theorem GJ.great {p2 p1 p0 v1 v0 g r:Nat}(h:GJ p2 p1 p0 v1 v0 g r)(hr:BB≤r):GOK p2 p1 p0 v1 v0 g:=by
 rcases h with⟨h1,h2⟩|⟨h1,h2,h3⟩
 · omega
 · exact h3
theorem GJ.fin {p2 p1 p0 v1 v0 g r:Nat}(h:GJ p2 p1 p0 v1 v0 g r)(hg:g<BB)(ht:g*v0≤r*BB+p0):GOK p2 p1 p0 v1 v0 g:=by
 rcases h with⟨h1,h2⟩|⟨h1,h2,h3⟩
 · exact h2.fin hg ht
 · exact h3
theorem GJ.less {p2 p1 p0 v1 v0 g r:Nat}(h:GJ p2 p1 p0 v1 v0 g r)(hv1:v1<BB)(hv0:v0<BB)(hp1:p1<BB)(hp2:p2≤v1)(hr:r<BB)(ht:BB≤g∨r*BB+p0<g*v0):0<g∧GJ p2 p1 p0 v1 v0 (g-1) (r+v1):=by
 rcases h with⟨h1,h2⟩|⟨h1,h2,h3⟩
 · have hgp:0<g:=by
    rcases Nat.eq_zero_or_pos g with h0|h0
    · rcases ht with ht|ht
      · have:=bP;omega
      · rw[h0,Nat.zero_mul]at ht;omega
    · exact h0
   have hne:∀ q,q<BB→q*(v1*BB+v0)≤(p2*BB+p1)*BB+p0→q≠g:=by
    rcases ht with ht|ht
    · exact GI.big ht
    · exact h2.test ht
   refine⟨hgp,?_⟩;by_cases hl:r+v1<BB
   · exact Or.inl ⟨hl,h2.less hne hgp hl⟩
   · exact Or.inr ⟨by omega,by omega,h2.last hv0 hp1 hp2 hne hgp (by omega)⟩
 · omega
theorem z1Q {m:Nat}{D:List Nat}(h1:m≤D.length)(h2:D.length≤m+1):(D++[0,0]).take (m+1)=D++List.replicate (m+1-D.length) 0:=by
 rw[List.take_append,List.take_of_length_le h2];congr 1
 rcases Nat.lt_or_ge D.length (m+1) with h|h
 · rw[show m+1-D.length=1 by omega];rfl
 · rw[show m+1-D.length=0 by omega];rfl
end Go.Gb
namespace Go.Proofs.YteihfbkaieemdaaGreatDoor
open Go.RowKit Go.Gb
theorem mg (v1 v2:Value)(a b:Nat)(hla:(ae a).length≤100000)(hlb:(ae b).length≤100000)(w:World)(h1:Rd .u32 w v1 (ae a))(h2:Rd .u32 w v2 (ae b)) :
 Calls Tryz.prog 74 #[v1,v2] w fun e w'=>∃ v,e=.returned v∧Own .u32 95 w.heap.size w' v (ae (a*b))∧Below w.heap.size w w':=by
 by_cases ha:a=0
 · subst ha
   rw[Nat.zero_mul,aT];rw[aT]at h1;obtain⟨p1,c1,rfl⟩:=aW h1;obtain⟨p2,c2,rfl⟩:=aW h2;clear h1 h2;simp only[List.length_nil];go_enter func74,ntmps74
   go_wp2;go_ret
   exact⟨_,rfl,Own.nil _ _ _ _,Below.refl _ _⟩
 · by_cases hb:b=0
   · subst hb
     rw[Nat.mul_zero,aT];rw[aT]at h2;obtain⟨p1,c1,rfl⟩:=aW h1;obtain⟨p2,c2,rfl⟩:=aW h2;have hp:0<(ae a).length:=List.length_pos_iff.2 (by rw[bN ha];simp);have d1:(((ae a).length:Int)==0)=false:=beq_eq_false_iff_ne.2 (by omega);clear h1 h2 ha;simp only[List.length_nil];generalize (ae a).length=n at *;go_enter func74,ntmps74
     go_wp2;go_ret
     exact⟨_,rfl,Own.nil _ _ _ _,Below.refl _ _⟩
   · have hpa:0<(ae a).length:=List.length_pos_iff.2 (by rw[bN ha];simp)
     have hpb:0<(ae b).length:=List.length_pos_iff.2 (by rw[bN hb];simp);obtain⟨b1,o1,c1,rfl,_,_,k1,r1⟩:=dR h1 hpa;obtain⟨b2,o2,c2,rfl,_,_,k2,r2⟩:=dR h2 hpb;have h:=wy b1 o1 c1 b2 o2 c2 (ae a) (ae b) hpa hpb hla hlb (aU a) (aU b) w k1 k2 r1 r2;rw[aA,aA]at h;exact h
theorem z0Y (w:World)(u v:Value)(T:TypeId):∀ j x,[u,v][j]? = some x→(w.alloc (.cells #[u,v] T)).cell? ((⟨w.heap.size,0,none⟩:Addr).add j)=some x:=by
 intro j x hj
 match j,hj with
 | 0,hj=>simp at hj;subst hj;simp[Addr.add]
 | 1,hj=>simp at hj;subst hj;simp[Addr.add]
theorem yT (v1 v2:Value)(a b:Nat)(hab:a<b)(hl:(ae a).length≤100000)(w:World)(h1:Rd .u32 w v1 (ae a))(h2:Rd .u32 w v2 (ae b)) :
 Calls Tryz.prog 110 #[v1,v2] w fun e w'=>∃ q r,e=.returned (.tuple #[q,r])∧Rd .u32 w' q (ae (a / b))∧Rd .u32 w' r (ae (a%b))∧Below w.heap.size w w':=by
 have hc:=mY v1 v2 a b (by omega) w h1 h2;rw[gI hab]at hc;have HC:=hid hc;have H1:=hid h1;rw[Nat.div_eq_of_lt hab,Nat.mod_eq_of_lt hab,aT];clear hc h1 h2;go_enter func110,ntmps110
 go_wp2_with fail
 refine HC.o.mono ?_;rintro e w1 ⟨rfl,hb1⟩;have u6:=hid hb1;clear hb1;go_wp2;go_ret2
 exact⟨_,v1,rfl,Or.inl ⟨rfl,rfl⟩,H1.o.below u6.o,u6.o⟩
theorem yR (v1 v2:Value)(a b:Nat)(hab:b≤a)(hlb:(ae b).length=1)(hl:(ae a).length≤100000)(w:World)(h1:Rd .u32 w v1 (ae a))(h2:Rd .u32 w v2 (ae b)) :
 Calls Tryz.prog 110 #[v1,v2] w fun e w'=>∃ q r,e=.returned (.tuple #[q,r])∧Rd .u32 w' q (ae (a / b))∧Rd .u32 w' r (ae (a%b))∧Below w.heap.size w w':=by
 have hc:=mY v1 v2 a b (by omega) w h1 h2;have hcc:(0:Int)≤cmpN a b:=by unfold cmpN;split<;>(try split)<;>omega
 have hb0:b≠0:=by intro h;rw[h,aT]at hlb;simp at hlb
 have hbB:b<BB:=by have:=dN b;rw[hlb,Nat.pow_one]at this;exact this
 obtain⟨b2,o2,c2,rfl,_,_,k2,r2⟩:=dR h2 (by omega);have hcb:=r2 0 (by omega);have hd:(ae b).getD 0 0=b:=by rw[bN hb0,List.getD_cons_zero,Nat.mod_eq_of_lt hbB]
 rw[hd,Nat.add_zero]at hcb;rw[hlb]at hc ⊢;obtain⟨m,hm⟩:∃ m,m=a%b:=⟨_,rfl⟩;rw[← hm];have HMM:=hid hm;clear hm;generalize cmpN a b=cc at *;obtain ⟨HC,H1,HCB,Hb0,HbB⟩:=bI hc h1 hcb hb0 hbB;have k3:(b:Int)≤999999999:=by rw[aG]at hbB;omega
 clear hc h1 h2 r2 hd hlb hcb hb0 hbB hab;go_enter func110,ntmps110
 go_wp2_with fail
 refine HC.o.mono ?_;rintro e w1 ⟨rfl,hb1⟩;have u6:=hid hb1;have hcb1:=(hb1.cell (p:=⟨b2,o2,none⟩) k2).trans HCB.o;have hs:=q9 v1 a b (by have:=Hb0.o;omega) HbB.o hl w1 (H1.o.below hb1);rw[← HMM.o]at hs;have HS:=hid hs;clear hs hb1;go_wp2_with fail
 refine HS.o.mono ?_;rintro e w2 ⟨q,rfl,hq,hb2⟩;have ww:=hbt u6 hb2;have HQ:=hid hq;have HM:=hid (wz m (by have h9:=HbB.o;rw[aG]at h9;have:=Nat.mod_lt a (show 0<b by have:=Hb0.o;omega);have:=HMM.o;omega) w2);clear hb2 hq hcb1;go_wp2_with fail
 refine HM.o.mono ?_;rintro e w3 ⟨r,rfl,hr,hb3⟩;have wm:=hbt ww hb3;have HR:=hid hr.rd;have HQ3:=hid ((HQ.o.below hb3).rd);clear hb3 hr;go_wp2;go_ret2
 exact⟨q,r,rfl,HQ3.o,HR.o,wm.o⟩
open Go.Lib (hid)
theorem z5g (B g F S P Q a b c d f s:Nat)(n o:Bool)(hm:Made a b c d o F S f s)(hf:Fac a b c d)(hd9:d≤1000000000)(hlF:(ae F).length≤80000)(hlS:(ae S).length≤80000)(hlP:(ae P).length≤80000)(hlQ:(ae Q).length≤80000)(w:World)(h:EuSt B w g F S P Q n)(hB:B≤w.heap.size) :
 Calls Tryz.prog 210 #[.pointer (some ⟨g,0,none⟩),.agg #[.int .u64 (a:Int),.int .u64 (b:Int),.int .u64 (c:Int),.int .u64 (d:Int),.bool o]] w fun e w'=>e=.returned (.tuple #[])∧Hid (EuSt B w' g f s (a*P+b*Q) (c*P+d*Q) (n != o))∧Below B w w':=by
 cases o with
 | false=>exact yJ B g F S P Q a b c d f s n hm hf hd9 hlF hlS hlP hlQ w h hB
 | true=>exact z0K B g F S P Q a b c d f s n hm hf hd9 hlF hlS hlP hlQ w h hB
theorem EuSt.kp {B g F S P Q:Nat}{n:Bool}{w w':World}(h:EuSt B w g F S P Q n){Z:Nat→Prop}(hk:Kp Z w w')(hg:¬ Z g)(hn:∀ {v:Value} {xs:List Nat},Own .u64 131 B w v xs→∀ k,At v k→¬ Z k):EuSt B w' g F S P Q n:=by
 obtain⟨vf,vs,vp,vq,hE,hBg,L⟩:=h;exact⟨vf,vs,vp,vq,hE.kp hk hg,hBg,L.kp hk (fun k h=>h.elim (hn L.f k) (fun h=>h.elim (hn L.s k) (fun h=>h.elim (hn L.p k) (hn L.q k))))⟩
theorem EuSt.below {B g F S P Q:Nat}{n:Bool}{w w':World}(h:EuSt B w g F S P Q n)(hb:Below w.heap.size w w'):EuSt B w' g F S P Q n :=
 h.kp (Z:=fun _=>False) (Kp.of_below hb) (fun h=>h) (fun _ _ _ h=>h)
theorem z4c {w:World}(g a b c d:Nat)(o:Bool):Kp (fun k=>k=g) w (set5 w g a b c d o) :=
 (((((Kp.refl (fun k=>k=g) w).set (p:=⟨g,0,none⟩) (fun _=>rfl) _).set (p:=⟨g,1,none⟩) (fun _=>rfl) _).set (p:=⟨g,2,none⟩) (fun _=>rfl) _).set (p:=⟨g,3,none⟩) (fun _=>rfl) _).set (p:=⟨g,4,none⟩) (fun _=>rfl) _
theorem EuSt.set5 {B g k F S P Q a b c d:Nat}{o n:Bool}{w:World}(h:EuSt B w g F S P Q n)(hs:Sb w k a b c d o)(a' b' c' d':Nat)(o':Bool):EuSt B (set5 w k a' b' c' d' o') g F S P Q n:=by
 obtain⟨vf,vs,vp,vq,hE,_,_⟩:=id h;exact h.kp (z4c k a' b' c' d' o') (jG hE hs) (fun ho j hj e=>kK hs ho (e▸hj))
theorem EuSt.alloc {B g F S P Q:Nat}{n:Bool}{w:World}(h:EuSt B w g F S P Q n)(x:Obj):EuSt B (w.alloc x) g F S P Q n:=h.below ((Below.refl _ w).alloc (Nat.le_refl _) x)
theorem EuSt.drew {B g F S P Q:Nat}{n:Bool}{w:World}(h:EuSt B w g F S P Q n):EuSt B w.drew g F S P Q n:=h.below ((Below.refl _ w).drew)
def EuN (k G F S:Nat):Prop:=k=F+S∧S≤F∧Nat.gcd F S=G
theorem z0E {B g F S P Q a b c d:Nat}{n o:Bool}{w w1:World}(h:EuSt B w g F S P Q n)(hB:B≤w.heap.size)(hb:Below w.drew.heap.size w.drew w1) :
 Sb (w1.alloc (.cells #[.int .u64 (a:Int),.int .u64 (b:Int),.int .u64 (c:Int),.int .u64 (d:Int),.bool o] 203)) w1.heap.size a b c d o∧EuSt B (w1.alloc (.cells #[.int .u64 (a:Int),.int .u64 (b:Int),.int .u64 (c:Int),.int .u64 (d:Int),.bool o] 203)) g F S P Q n ∧
 Below B w (w1.alloc (.cells #[.int .u64 (a:Int),.int .u64 (b:Int),.int .u64 (c:Int),.int .u64 (d:Int),.bool o] 203)) :=
 ⟨kJ w1 a b c d o,(h.drew.below hb).alloc _,((Below.refl B w).drew.trans (hb.mono hB)).alloc (Nat.le_trans hB hb.size) _⟩
theorem z0D {B g F S P Q a b c d:Nat}{n o:Bool}{w w1:World}(h:EuSt B w g F S P Q n)(hB:B≤w.heap.size)(hb:Below (w.alloc (.cells #[.int .u64 0,.int .u64 0,.int .u64 0,.int .u64 0,.bool false] 203)).drew.heap.size (w.alloc (.cells #[.int .u64 0,.int .u64 0,.int .u64 0,.int .u64 0,.bool false] 203)).drew w1) :
 Sb (set5 w1 w.heap.size a b c d o) w.heap.size a b c d o∧EuSt B (set5 w1 w.heap.size a b c d o) g F S P Q n∧Below B w (set5 w1 w.heap.size a b c d o):=by
 have hs:Sb w1 w.heap.size 0 0 0 0 false:=bK (uR (kJ w 0 0 0 0 false)) hb;have he:EuSt B w1 g F S P Q n:=((h.alloc _).drew).below hb;refine⟨gG hs a b c d o,he.set5 hs a b c d o,dI ?_ hB a b c d o⟩;exact(((Below.refl B w).alloc hB _).drew).trans (hb.mono (Nat.le_trans hB (by show _≤(World.alloc _ _).heap.size;rw[World.size_alloc];omega)))
theorem eRun (I:Nat→Nat→Nat→Nat→Bool→Prop)(hI:Keeps I)(B g F S P Q:Nat)(n:Bool)(h0:I F S P Q n)(w:World)(h:EuSt B w g F S P Q n)(hB:B≤w.heap.size) :
 Calls Tryz.prog 185 #[.pointer (some ⟨g,0,none⟩)] w fun e w'=>∃ (P' Q':Nat) (n':Bool),e=.returned (.tuple #[])∧Hid (EuSt B w' g (Nat.gcd F S) 0 P' Q' n')∧Hid (I (Nat.gcd F S) 0 P' Q' n')∧Below B w w':=by
 obtain ⟨HI,H0,HE,HB⟩:=aL hI h0 h hB;obtain⟨l1,l2,l3,l4⟩:=hI.len F S P Q n h0;obtain⟨vf,vs,vp,vq,hE,hBg,L⟩:=h;have HLs:=hid (mZ vf vs F S (by omega) w.drew L.f.rd L.s.rd);obtain⟨c0,c1,c2,c3,c4⟩:=hE.cells;clear hI h0 hB hE L hBg l1 l2 l3 l4;go_enter func185,ntmps185
 go_upto_region 0 with fail
 go_cut [11] (fun v wx=>v=.bool (decide (F<S))∧Hid (EuSt B wx g F S P Q n)∧Hid (Below B w wx))
 case first =>
  go_region_with (go_at_call 207;go_must (refine HLs.o.mono ?_;rintro e w1 ⟨rfl,hb1⟩))
  all_goals
   have E':=hid (HE.o.drew.below hb1);have B':=hid (show Below B w w1 from(Below.refl B w).drew.trans (hb1.mono HB.o));clear hb1;go_wp2_with fail
   go_meet
   exact⟨rfl,E',B'⟩
 case rest =>
  clear c0 c1 c2 c3 c4 HLs HE;obtain⟨rfl,HE,HW⟩:=hcut;go_upto_if 11 with fail
  go_cut [12] (fun _ wx=>∃ (F' S' P' Q':Nat) (n':Bool),Hid (EuN (F+S) (Nat.gcd F S) F' S')∧Hid (EuSt B wx g F' S' P' Q' n')∧Hid (I F' S' P' Q' n')∧Hid (Below B w wx))
  case first =>
   by_cases hFS:F<S
   · rw[decide_eq_true hFS]
     obtain⟨l1,l2,l3,l4⟩:=HI.o.len F S P Q n H0.o;have hn:=HI.o.div F S P Q n (by omega) H0.o;have ln:=HI.o.len _ _ _ _ _ hn;have HDv:=hid (z0J B g F S P Q n (by omega) l1 l3 l4 ln.2.2.2 wc HE.o (Nat.le_trans HB.o HW.o.size));rw[Nat.mod_eq_of_lt hFS]at hn HDv;have HN:=hid hn;have HA:=hid (show EuN (F+S) (Nat.gcd F S) S F from⟨Nat.add_comm _ _,Nat.le_of_lt hFS,Nat.gcd_comm _ _⟩);clear hn ln l1 l2 l3 l4 hFS;go_wp2_with fail
     refine HDv.o.mono ?_;rintro e w2 ⟨rfl,hE2,hb2⟩;have HW2:=hid (HW.o.trans hb2);clear hb2;go_wp2_with fail
     go_meet
     exact⟨S,F,Q,_,_,HA,hE2,HN,HW2⟩
   · rw[decide_eq_false hFS]
     have HA:=hid (show EuN (F+S) (Nat.gcd F S) F S from⟨rfl,by omega,rfl⟩);clear hFS;go_wp2_with fail
     go_meet
     exact⟨F,S,P,Q,n,HA,HE,H0,HW⟩
  case rest =>
   clear HE HW H0;obtain⟨F0,S0,P0,Q0,n0,hA0,hE0,hI0,hW0⟩:=hcut;go_wp2;go_loopg [2] (F+S) (fun k _ wr=>∃ (F' S' P' Q':Nat) (n':Bool),Hid (EuN k (Nat.gcd F S) F' S')∧Hid (EuSt B wr g F' S' P' Q' n')∧Hid (I F' S' P' Q' n')∧Hid (Below B w wr))
   case atStart=>exact⟨F0,S0,P0,Q0,n0,hA0,hE0,hI0,hW0⟩
   case round =>
        obtain⟨F1,S1,P1,Q1,n1,hA,hE,hJ,hW⟩:=hrel;clear hA0 hE0 hI0 hW0;obtain⟨vf,vs,vp,vq,hEb,hBg,L⟩:=hE.o;obtain⟨af,cf,rfl⟩:=aW L.f.rd;obtain⟨as_,cs_,rfl⟩:=aW L.s.rd;obtain⟨c0,c1,c2,c3,c4⟩:=hEb.cells;obtain⟨l1,l2,l3,l4⟩:=HI.o.len _ _ _ _ _ hJ.o;by_cases hS1:S1=0
        · subst hS1
          rw[aT,show([]:List Nat).length=0 from rfl]at c1;clear hEb L hBg c0 c2 c3 c4 l1 l2 l3 l4;have hg:=hA.o.2.2;rw[Nat.gcd_zero_right]at hg;have HG:=hid hg;clear hg;go_wp2;go_end0
          exact⟨P1,Q1,n1,rfl,by rw[← HG.o];exact hE,by rw[← HG.o];exact hJ,hW.o⟩
        · have hm:0<(ae S1).length:=by rw[bN hS1];simp
          have HFo:=hid (nS _ _ F1 S1 hS1 hA.o.2.1 l1 wr.drew L.f.rd L.s.rd);have HFo2:=hid (nS _ _ F1 S1 hS1 hA.o.2.1 l1 (wr.alloc (.cells #[.int .u64 0,.int .u64 0,.int .u64 0,.int .u64 0,.bool false] 203)).drew (L.f.rd.below ((Below.refl _ wr).alloc (Nat.le_refl _) _).drew) (L.s.rd.below ((Below.refl _ wr).alloc (Nat.le_refl _) _).drew));unfold Stp at HFo HFo2
          obtain ⟨hZ,HS1⟩:=aB (Nat.le_trans HB.o hW.o.size) hS1;generalize (ae S1).length=m at *;generalize (ae F1).length=mf at *;have hgw:=hEb.lt;have GA:=hid (show g<wr.drew.heap.size from hgw);have GB:=hid (show g<(wr.alloc (.cells #[.int .u64 0,.int .u64 0,.int .u64 0,.int .u64 0,.bool false] 203)).drew.heap.size by show _<(World.alloc _ _).heap.size;rw[World.size_alloc];omega);have DA0:=hid (show wr.drew.cell? ⟨g,0,none⟩=some (.slice af mf cf) from c0);have DA1:=hid (show wr.drew.cell? ⟨g,1,none⟩=some (.slice as_ m cs_) from c1);have DB0:=hid (show(wr.alloc (.cells #[.int .u64 0,.int .u64 0,.int .u64 0,.int .u64 0,.bool false] 203)).drew.cell? ⟨g,0,none⟩=some (.slice af mf cf) by rw[nu,fF hgw];exact c0);have DB1:=hid (show(wr.alloc (.cells #[.int .u64 0,.int .u64 0,.int .u64 0,.int .u64 0,.bool false] 203)).drew.cell? ⟨g,1,none⟩=some (.slice as_ m cs_) by rw[nu,fF hgw];exact c1);clear hEb L hBg l1 l2 l3 l4 hS1;go_upto_region 3 with fail
          go_cut [2]from 14 to 36 (fun v2 wx=>∃ (k a b c d:Nat) (o:Bool),v2=.pointer (some ⟨k,0,none⟩)∧Hid (Sb wx k a b c d o)∧Hid (EuSt B wx g F1 S1 P1 Q1 n1)∧Hid (Seen F1 S1 a b c d o)∧Hid (Below B w wx))
          case first =>
           go_region_held3 (fun w'=>w'.cell? ⟨g,0,none⟩=some (.slice af mf cf)∧w'.cell? ⟨g,1,none⟩=some (.slice as_ m cs_)) (first|((try go_split_ands);refine⟨?_,?_⟩<;>(first|(with_reducible assumption)|((repeat (first|rw[nu]|rw[fF (by first|assumption|omega|(simp;done)|(simp;omega))]|rw[zi (by omega)]));first|(with_reducible assumption)|(simp;done))))|(go_keep;done))
            (first
               | (go_at_call 209;(refine(HFo.o).mono ?_);rintro e w1 ⟨a,b,c,d,o,rfl,hSeen,hb1⟩;have u6:=hid hb1;obtain⟨hc1,hf1⟩:=wbc hb1;have hz1:=hb1.size;(try simp at hz1);have d0:w1.cell? ⟨g,0,none⟩=some (.slice af mf cf):=(hc1 _ _ GA.o).trans DA0.o;have d1:w1.cell? ⟨g,1,none⟩=some (.slice as_ m cs_):=(hc1 _ _ GA.o).trans DA1.o)
               | (go_at_call 209;(refine(HFo2.o).mono ?_);rintro e w1 ⟨a,b,c,d,o,rfl,hSeen,hb1⟩;have u6:=hid hb1;obtain⟨hc1,hf1⟩:=wbc hb1;have hz1:=hb1.size;(try simp at hz1);have d0:w1.cell? ⟨g,0,none⟩=some (.slice af mf cf):=(hc1 _ _ GB.o).trans DB0.o;have d1:w1.cell? ⟨g,1,none⟩=some (.slice as_ m cs_):=(hc1 _ _ GB.o).trans DB1.o))
           · obtain⟨q1,q2,q3⟩:=z0E (a:=a) (b:=b) (c:=c) (d:=d) (o:=o) hE.o hZ.o u6.o
             obtain ⟨Q1,Q2,Q3⟩:=ak q1 q2 (hW.o.trans q3);clear q1 q2 q3;go_wp2_with fail
             go_meet
             exact⟨_,a,b,c,d,o,rfl,Q1,Q2,hSeen,Q3⟩
           · obtain⟨q1,q2,q3⟩:=z0D (a:=a) (b:=b) (c:=c) (d:=d) (o:=o) hE.o hZ.o u6.o
             obtain ⟨Q1,Q2,Q3⟩:=ak q1 q2 (hW.o.trans q3);clear q1 q2 q3;go_wp2_with fail
             go_meet
             exact⟨_,a,b,c,d,o,rfl,Q1,Q2,hSeen,Q3⟩
          case rest =>
           clear hE hW hZ c0 c1 c2 c3 c4 HFo HFo2 hgw;obtain⟨k,a,b,c,d,o,rfl,hS,hE,hSeen,hW⟩:=hcut;have hZ:=Nat.le_trans HB.o hW.o.size;obtain⟨s0,s1,s2,s3,s4⟩:=bH hS.o;obtain⟨l1,l2,l3,l4⟩:=HI.o.len _ _ _ _ _ hJ.o;obtain⟨hk,hle,hg⟩:=hA.o;by_cases hb:b=0
           · have hbz:((b:Int)==0)=true:=beq_iff_eq.2 (by omega)
             have hn:=HI.o.div F1 S1 P1 Q1 n1 HS1.o hJ.o;have ln:=HI.o.len _ _ _ _ _ hn;have HDv:=hid (z0J B g F1 S1 P1 Q1 n1 HS1.o l1 l3 l4 ln.2.2.2 wc hE.o hZ);have hlt:=Nat.mod_lt F1 (Nat.pos_of_ne_zero HS1.o);have HA:=hid (show EuN (S1+F1%S1) (Nat.gcd F S) S1 (F1%S1) from⟨rfl,Nat.le_of_lt hlt,by rw[← hg,Nat.gcd_comm S1,← Nat.gcd_rec,Nat.gcd_comm]⟩);have HLt:=hid (show S1+F1%S1<gk by omega);have HN:=hid hn;clear hn ln hlt hk hle hg l1 l2 l3 l4 hb hZ;go_wp2_with fail
             refine HDv.o.mono ?_;rintro e w2 ⟨rfl,hE2,hb2⟩;have HW2:=hid (hW.o.trans hb2);clear hb2;go_wp2;go_roundg (S1+F1%S1)
             case measure=>exact HLt.o
             case rel=>exact⟨S1,F1%S1,Q1,_,_,HA,hE2,HN,HW2⟩
           · have hbz:((b:Int)==0)=false:=beq_eq_false_iff_ne.2 (by omega)
             have hF1:F1≠0:=by have:=HS1.o;omega
             obtain⟨f,s,hm,hsf,hFac,hD,hd9⟩:=hSeen.o.resolve_left hb;have hn:=HI.o.app F1 S1 P1 Q1 n1 a b c d o f s hF1 hb hm hD hFac hsf hJ.o;have HAp:=hid (z5g B g F1 S1 P1 Q1 a b c d f s n1 o hm hFac hd9 l1 l2 l3 l4 wc hE.o hZ);have HA:=hid (show EuN (f+s) (Nat.gcd F S) f s from⟨rfl,hsf,by rw[hm.gcd hD,hg]⟩);have HLt:=hid (show f+s<gk by have:=hm.less hD hFac hb hF1 hsf;omega);have HN:=hid hn;clear hn hk hle hg l1 l2 l3 l4 hb hZ hF1 hm hsf hFac hD hd9;go_wp2_with fail
             refine HAp.o.mono ?_;rintro e w2 ⟨rfl,hE2,hb2⟩;have HW2:=hid (hW.o.trans hb2);clear hb2;go_wp2;go_roundg (f+s)
             case measure=>exact HLt.o
             case rel=>exact⟨f,s,_,_,_,HA,hE2,HN,HW2⟩
end Go.Proofs.YteihfbkaieemdaaGreatDoor
open Go.Lib (hid)
namespace Go.Proofs.YteihfbkaieemdaaGreatDoor
open Go.RowKit Go.Gb
theorem xK {B a b:Nat}{u1 u2 u3 u4:Value}{P Q:Nat}{w:World}(hB:B≤w.heap.size)(o1:Own .u64 131 B w u1 (ae a))(o2:Own .u64 131 B w u2 (ae b))(o3:Own .u64 131 B w u3 (ae P))(o4:Own .u64 131 B w u4 (ae Q))
 (a12:Apt u1 u2) (a13:Apt u1 u3) (a14:Apt u1 u4) (a23:Apt u2 u3) (a24:Apt u2 u4) (a34:Apt u3 u4) (n:Bool) :
 EuSt B (w.alloc (.cells #[u1,u2,u3,u4,.bool n] 210)) w.heap.size a b P Q n:=by
 have hb:=(Below.refl _ w).alloc (Nat.le_refl _) (.cells #[u1,u2,u3,u4,.bool n] 210);refine⟨u1,u2,u3,u4,?_,hB,⟨o1.below hb,o2.below hb,o3.below hb,o4.below hb,a12,a13,a14,a23,a24,a34⟩⟩;unfold Eb
 rw[heap_alloc_new]
theorem wI (v1 v2:Value)(a b:Nat)(hl:2<(ae a).length∨2<(ae b).length)(hla:(ae a).length≤70000)(hlb:(ae b).length≤70000)(w:World)(h1:Rd .u64 w v1 (ae a))(h2:Rd .u64 w v2 (ae b)) :
 Calls Tryz.prog 157 #[v1,v2] w fun e w'=>∃ v,e=.returned v∧Own .u64 131 w.heap.size w' v (ae (Nat.gcd a b))∧Below w.heap.size w w':=by
 have hlN:(ae (a+b)).length≤80000:=by
  have:=iK hla hlb;omega
 have HI:=hid (CmI.keeps hlN);have HC1:=hid (oh v1 (ae a) (by omega) w h1);have HC2:=hid (fun W (h:Rd .u64 W v2 (ae b))=>oh v2 (ae b) (by omega) W h);have HR2:=hid h2;by_cases hs:(ae a).length≤2
 · have s1:=hid (ky v1 _ hs w h1)
   have s2:=hid (pO v2 _ (by omega) (by omega) w h2);clear hl hla hlb h1 h2 hlN hs;go_enter func157,ntmps157
   go_wp2_with fail
   refine s1.o.mono ?_;rintro e w' ⟨rfl,rfl⟩;go_wp2_with fail
   refine s2.o.mono ?_;rintro e w' ⟨rfl,rfl⟩;clear s1 s2;go_wp2_with fail
   refine HC1.o.mono ?_;rintro e w1 ⟨u1,rfl,ho1,hb1⟩;obtain⟨a1,c1,rfl⟩:=aW ho1.rd;obtain ⟨HO1,u6,HD2⟩:=ak ho1 hb1 (HC2.o w1 (HR2.o.below hb1));clear ho1 hb1;go_wp2_with fail
   refine HD2.o.mono ?_;rintro e w2 ⟨u2,rfl,ho2,hb2⟩;obtain⟨a2,c2,rfl⟩:=aW ho2.rd;have hB2:=u6.o.trans (hb2.mono u6.o.size)
   have hst:=xK (n:=false) hB2.size (HO1.o.below hb2) (ho2.mono u6.o.size) (u3:=.slice none 0 0) (u4:=.slice none 0 0) (P:=0) (Q:=0) (by rw[aT];exact Own.nil _ _ _ _) (by rw[aT];exact Own.nil _ _ _ _)
    (fI ho2 _ (fun g hg=>(HO1.o.at hg).2)).symm (Apt.nil_right _ _ _) (Apt.nil_right _ _ _) (Apt.nil_right _ _ _) (Apt.nil_right _ _ _) (Apt.nil_right _ _ _)
   have hB3:=hB2.alloc hB2.size (.cells #[.slice a1 (ae a).length c1,.slice a2 (ae b).length c2,.slice none 0 0,.slice none 0 0,.bool false] 210);have HRun:=hid (eRun _ HI.o w.heap.size w2.heap.size a b 0 0 false ⟨Nat.le_refl _,rfl,rfl⟩ _ hst hB3.size);have wm:=hid hB3;clear ho2 hb2 hB2 hst hB3 HO1 u6 HC1 HC2 HD2 HR2;go_wp2_with fail
   refine HRun.o.mono ?_;rintro e w4 ⟨P',Q',n',rfl,hE,_,hb4⟩;have wo:=hid (wm.o.trans hb4);obtain⟨vf,vs,vp,vq,hEb,_,L⟩:=hE.o;obtain⟨c0,_,_,_,_⟩:=hEb.cells;have HF:=hid L.f;clear hE hEb L hb4 HRun;go_wp2;go_ret
   exact⟨vf,rfl,HF.o,wo.o⟩
 · have s1:=hid (pO v1 _ (by omega) (by omega) w h1)
   clear hl hla hlb h1 h2 hlN hs;go_enter func157,ntmps157
   go_wp2_with fail
   refine s1.o.mono ?_;rintro e w' ⟨rfl,rfl⟩;clear s1;go_wp2_with fail
   refine HC1.o.mono ?_;rintro e w1 ⟨u1,rfl,ho1,hb1⟩;obtain⟨a1,c1,rfl⟩:=aW ho1.rd;obtain ⟨HO1,u6,HD2⟩:=ak ho1 hb1 (HC2.o w1 (HR2.o.below hb1));clear ho1 hb1;go_wp2_with fail
   refine HD2.o.mono ?_;rintro e w2 ⟨u2,rfl,ho2,hb2⟩;obtain⟨a2,c2,rfl⟩:=aW ho2.rd;have hB2:=u6.o.trans (hb2.mono u6.o.size)
   have hst:=xK (n:=false) hB2.size (HO1.o.below hb2) (ho2.mono u6.o.size) (u3:=.slice none 0 0) (u4:=.slice none 0 0) (P:=0) (Q:=0) (by rw[aT];exact Own.nil _ _ _ _) (by rw[aT];exact Own.nil _ _ _ _)
    (fI ho2 _ (fun g hg=>(HO1.o.at hg).2)).symm (Apt.nil_right _ _ _) (Apt.nil_right _ _ _) (Apt.nil_right _ _ _) (Apt.nil_right _ _ _) (Apt.nil_right _ _ _)
   have hB3:=hB2.alloc hB2.size (.cells #[.slice a1 (ae a).length c1,.slice a2 (ae b).length c2,.slice none 0 0,.slice none 0 0,.bool false] 210);have HRun:=hid (eRun _ HI.o w.heap.size w2.heap.size a b 0 0 false ⟨Nat.le_refl _,rfl,rfl⟩ _ hst hB3.size);have wm:=hid hB3;clear ho2 hb2 hB2 hst hB3 HO1 u6 HC1 HC2 HD2 HR2;go_wp2_with fail
   refine HRun.o.mono ?_;rintro e w4 ⟨P',Q',n',rfl,hE,_,hb4⟩;have wo:=hid (wm.o.trans hb4);obtain⟨vf,vs,vp,vq,hEb,_,L⟩:=hE.o;obtain⟨c0,_,_,_,_⟩:=hEb.cells;have HF:=hid L.f;clear hE hEb L hb4 HRun;go_wp2;go_ret
   exact⟨vf,rfl,HF.o,wo.o⟩
theorem yX (a b:Nat)(hla:(ae a).length≤70000)(hlb:(ae b).length≤70000):z3d a b:=by
 intro v1 v2 w h1 h2;by_cases h:(ae a).length≤2∧(ae b).length≤2
 · exact uJ v1 v2 a b h.1 h.2 w h1 h2
 · exact wI v1 v2 a b (by omega) hla hlb w h1 h2
