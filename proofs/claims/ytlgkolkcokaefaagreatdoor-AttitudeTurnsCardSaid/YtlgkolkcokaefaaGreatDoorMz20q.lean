/- texts -/
import Derived.Test.YtlgkolkcokaefaaGreatDoorMz13q
import Derived.Test.YtlgkolkcokaefaaGreatDoorMz14q
import Derived.Test.YtlgkolkcokaefaaGreatDoorMz16q
import Derived.Test.YtlgkolkcokaefaaGreatDoorMz19q
import Derived.Lib.SmallJoins
open Go.Proofs.Tryz
namespace Go.Gb
theorem z2B {Yt Z V r P t c B:Nat}(hZ:Z<P)(hr:r<P)(hs:Yt+V=Z+P*c)(hY:Yt+P*t+V=r+P*B):c+t=B:=by
 have h:Z+P*(c+t)=r+P*B:=by rw[Nat.mul_add];omega
 have hP:0<P:=by omega
 have h1:=congrArg (· / P) h;simp only[Nat.add_mul_div_left _ _ hP,Nat.div_eq_of_lt hZ,Nat.div_eq_of_lt hr,Nat.zero_add]at h1;exact h1
end Go.Gb
namespace Go.Proofs.YtlgkolkcokaefaaGreatDoor
open Go.RowKit Go.Gb
def Row4 (w:World) (g cap:Nat) (zs:List Nat):Prop:=∃ cur:Array Value,w.heap[g]? = some (.cells cur 89 (0,0))∧cur.size=cap∧zs.length≤cap∧cur.toList.take zs.length=cls .u32 zs
theorem Row4.lt {w:World}{g cap:Nat}{zs:List Nat}(h:Row4 w g cap zs):g<w.heap.size:=by
 obtain⟨cur,h1,_⟩:=h;exact(Array.getElem?_eq_some_iff.1 h1).1
theorem Row4.le {w:World}{g cap:Nat}{zs:List Nat}(h:Row4 w g cap zs):zs.length≤cap:=by
 obtain⟨cur,_,_,h3,_⟩:=h;exact h3
theorem Row4.cell {w:World}{g cap:Nat}{zs:List Nat}(h:Row4 w g cap zs){i:Nat}(hi:i<zs.length):w.cell? ⟨g,i,none⟩=some (.int .u32 ((zs.getD i 0:Nat):Int)):=by
 obtain⟨cur,h1,h2,h3,h4⟩:=h;have h5:=jo (k:=.u32) hi;rw[← h4,List.getElem?_take,if_pos hi]at h5;simp only[World.cell?,h1];simpa using h5
theorem Row4.free {w:World}{g cap:Nat}{zs:List Nat}(h:Row4 w g cap zs)(i:Nat):w.frozen? ⟨g,i,none⟩=false:=by
 obtain⟨cur,h1,h2,h3,h4⟩:=h;simp only[World.frozen?,h1];simp
theorem Row4.set {w:World}{g cap:Nat}{zs:List Nat}(h:Row4 w g cap zs)(i v:Nat):Row4 (w.setCell ⟨g,i,none⟩ (.int .u32 ((v:Nat):Int))) g cap (zs.set i v):=by
 obtain⟨cur,h1,h2,h3,h4⟩:=h;refine⟨cur.setIfInBounds i (.int .u32 (v:Int)),?_,by simp[h2],by simpa using h3,?_⟩
 · simp only[World.setCell,Array.getElem?_modify,h1]
   simp
 · rw[List.length_set,qJ,← h4,Array.toList_setIfInBounds,List.take_set]
theorem Row4.aside {w:World}{g cap k i:Nat}{zs:List Nat}{v:Value}(h:Row4 w g cap zs)(hne:g≠k):Row4 (w.setCell ⟨k,i,none⟩ v) g cap zs:=by
 obtain⟨cur,h1,h2,h3,h4⟩:=h;exact⟨cur,by rw[Below.heap_setCell _ _ _ _ hne];exact h1,h2,h3,h4⟩
theorem Row4.below {w w':World}{g cap:Nat}{zs:List Nat}(h:Row4 w g cap zs)(hb:Below w.heap.size w w'):Row4 w' g cap zs:=by
 obtain⟨cur,h1,h2,h3,h4⟩:=h;exact⟨cur,by rw[hb.block g (Array.getElem?_eq_some_iff.1 h1).1];exact h1,h2,h3,h4⟩
theorem Row4.drewN {w:World}{g cap:Nat}{zs:List Nat}(h:Row4 w g cap zs)(n:Nat):Row4 (w.drewN n) g cap zs:=h
theorem Row4.take {w:World}{g cap:Nat}{zs:List Nat}(h:Row4 w g cap zs)(m:Nat)(hm:m≤zs.length):Row4 w g cap (zs.take m):=by
 obtain⟨cur,h1,h2,h3,h4⟩:=h;refine⟨cur,h1,h2,by simp;omega,?_⟩;rw[mF,← h4,List.take_take,List.length_take,Nat.min_eq_left hm]
theorem Row4.own {w:World}{g cap B:Nat}{zs:List Nat}(h:Row4 w g cap zs)(hB:B≤g)(hm:cap≤maxLen):Own .u32 89 B w (.slice (some ⟨g,0,none⟩) zs.length cap) zs:=by
 obtain⟨cur,h1,h2,h3,h4⟩:=h;refine⟨by simp[cls],Or.inr ⟨g,cap,cur,rfl,hB,h1,h3,hm,by simp[h2],?_⟩⟩;rw[Nat.mul_one];exact h4
theorem Row4.of_own {w:World}{B:Nat}{v:Value}{zs:List Nat}(h:Own .u32 89 B w v zs)(hp:0<zs.length):∃ g cap,v=.slice (some ⟨g,0,none⟩) zs.length cap∧B≤g∧cap≤maxLen∧Row4 w g cap zs:=by
 obtain⟨h1,h2⟩:=h;rcases h2 with⟨h2,h3⟩|⟨g,cap,cur,hv,hg,hh,hn,hc,hs,ht⟩
 · omega
 · rw[Nat.mul_one]at hs ht
   exact⟨g,cap,hv,hg,hc,cur,hh,hs,hn,ht⟩
set_option maxRecDepth 100000
set_option maxHeartbeats 20000000
open Go.Lib (hid)
theorem Blk4.alloc {w:World}(zs:List Nat)(cs:Array Value)(h:cs=(cls .u32 zs).toArray):Blk4 (w.alloc (.cells cs 89)) w.heap.size zs:=by
 unfold Blk4
 rw[heap_alloc_new,h]
theorem rF (zs:List Nat)(hB:∀ z∈zs,z<BB)(hl:zs.length≤10)(cs:Array Value)(h:cs=(cls .u32 zs).toArray)(n:Nat)(hn:n=zs.length)(w:World) :
 Calls Tryz.prog 69 #[.slice (some ⟨w.heap.size,0,none⟩) n n] (w.alloc (.cells cs 89)) fun e w'=>∃ v',e=.returned v'∧Own .u32 89 w.heap.size w' v' (ae (aj zs))∧w.alloc (.cells cs 89)=w':=by
 subst hn;exact(gG 89 w.heap.size _ zs hB _ ((Blk4.alloc zs cs h).own (Nat.le_refl _) (by unfold maxLen;omega))).mono fun e w' ⟨v',h1,h2,h3⟩=>⟨v',h1,h3▸h2,h3⟩
theorem uZ (n:Nat)(hn:n<4294967296)(w:World) :
 Calls Tryz.prog 48 #[.int .u32 (n:Int)] w fun e w'=>∃ v,e=.returned v∧Own .u32 89 w.heap.size w' v (ae n)∧Below w.heap.size w w':=by
 obtain⟨lo,hlo⟩:∃ lo,lo=n%BB:=⟨_,rfl⟩;obtain⟨hi,hhi⟩:∃ hi,hi=n / BB:=⟨_,rfl⟩;have e1:(n:Int)%1000000000=(lo:Int):=by rw[hlo,aJ];omega
 have e2:(n:Int) / 1000000000=(hi:Int):=by rw[hhi,aJ];omega
 have htr:=rF [lo,hi] (by intro z hz;simp at hz;rcases hz with rfl|rfl;· rw[hlo];exact Nat.mod_lt _ bI
                          · rw[hhi,Nat.div_lt_iff_lt_mul bI,aJ];omega) (by simp) #[.int .u32 (lo:Int),.int .u32 (hi:Int)] (by simp[cls]) 2 rfl w
 rw[show aj [lo,hi]=n by simp only[aj,Nat.mul_zero,Nat.add_zero];rw[hlo,hhi];exact Nat.mod_add_div _ _]at htr;have HTR:=hid htr;have k1:(n:Int)≤4294967295:=by omega
 have k2:(lo:Int)≤999999999:=by rw[aJ]at hlo;omega
 have k3:(hi:Int)≤4:=by rw[aJ]at hhi;omega
 clear htr hlo hhi hn;go_enter func48,ntmps48
 go_wp2_with fail
 refine HTR.out.mono ?_;rintro e w2 ⟨v',rfl,hown,rfl⟩;go_wp2;go_ret
 exact⟨v',rfl,hown,(Below.refl _ _).alloc (Nat.le_refl _) _⟩
theorem z5p (n:Nat)(hn:n<18446744073709551616)(w:World) :
 Calls Tryz.prog 71 #[.int .u64 (n:Int)] w fun e w'=>∃ v,e=.returned v∧Own .u32 89 w.heap.size w' v (ae n)∧Below w.heap.size w w':=by
 obtain⟨a,ha⟩:∃ a,a=n%BB:=⟨_,rfl⟩;obtain⟨q,hq⟩:∃ q,q=n / BB:=⟨_,rfl⟩;obtain⟨b,hb⟩:∃ b,b=q%BB:=⟨_,rfl⟩;obtain⟨c,hc⟩:∃ c,c=q / BB:=⟨_,rfl⟩;have e1:(n:Int)%1000000000=(a:Int):=by rw[ha,aJ];omega
 have e2:(n:Int) / 1000000000=(q:Int):=by rw[hq,aJ];omega
 have e3:(q:Int)%1000000000=(b:Int):=by rw[hb,aJ];omega
 have e4:(q:Int) / 1000000000=(c:Int):=by rw[hc,aJ];omega
 have k2:(a:Int)≤999999999:=by rw[aJ]at ha;omega
 have k3:(b:Int)≤999999999:=by rw[aJ]at hb;omega
 have k5:(q:Int)≤18446744073:=by rw[aJ]at hq;omega
 have k4:(c:Int)≤18:=by rw[aJ]at hc;omega
 have htr:=rF [a,b,c] (by intro z hz;simp at hz;rw[aJ];rcases hz with rfl|rfl|rfl<;>omega) (by simp) #[.int .u32 (a:Int),.int .u32 (b:Int),.int .u32 (c:Int)] (by simp[cls]) 3 rfl w
 rw[show aj [a,b,c]=n by
  simp only[aj,Nat.mul_zero,Nat.add_zero]
  rw[hb,hc,Nat.mod_add_div,ha,hq,Nat.mod_add_div]]at htr
 have HTR:=hid htr;have k1:(n:Int)≤18446744073709551615:=by omega
 clear htr ha hq hb hc hn;go_enter func71,ntmps71
 go_wp2_with fail
 refine HTR.out.mono ?_;rintro e w2 ⟨v',rfl,hown,rfl⟩;go_wp2;go_ret
 exact⟨v',rfl,hown,(Below.refl _ _).alloc (Nat.le_refl _) _⟩
theorem z4G (v:Value)(a:Nat)(hl:(ae a).length≤2)(w:World)(h:Rd .u32 w v (ae a)) :
 Calls Tryz.prog 70 #[v] w fun e w'=>e=.returned (.int .u64 (a:Int))∧w=w':=by
 obtain⟨p,c,rfl,r⟩:=h.gen;have hv:=aB a;have hB:=aQ a;generalize ae a=xs at *
 match xs,hl with
 | [],_ =>
   have h0:a=0:=by rw[← hv];rfl
   subst h0;clear hv hB r h hl;simp only[List.length_nil];go_enter func70,ntmps70
   go_wp2;refine wp_loop_rounds 1 ?_;rw[rounds_succ];go_wp2;go_ret
   exact⟨rfl,rfl⟩
 | [x],_ =>
   have h0:a=x:=by rw[← hv];simp[aj]
   have hx:=hB x (by simp);rw[aJ]at hx;subst h0;obtain⟨b,o,rfl,hb,hc⟩:=r 0 (by simp);simp only[List.getD_cons_zero,Nat.add_zero]at hc;have k1:(a:Int)≤999999999:=by omega
   clear hv hB r h hl hb hx;simp only[List.length_cons,List.length_nil];go_enter func70,ntmps70
   go_wp2;refine wp_loop_rounds 2 ?_;rw[rounds_succ];go_wp2;rw[rounds_succ];go_wp2;go_ret
   exact⟨rfl,rfl⟩
 | [x,y],_ =>
   have hx:=hB x (by simp);have hy:=hB y (by simp);have h0:a=x+1000000000*y:=by rw[← hv];simp only[aj,Nat.mul_zero,Nat.add_zero];rw[aJ]
   rw[aJ]at hx hy;obtain⟨b,o,rfl,hb,hc⟩:=r 0 (by simp);obtain⟨b',o',hp,hb',hc'⟩:=r 1 (by simp);injection hp with hp
   injection hp with e1 e2 e3
   subst e1 e2;simp only[List.getD_cons_zero,List.getD_cons_succ,Nat.add_zero]at hc hc';have k1:(x:Int)≤999999999:=by omega
   have k2:(y:Int)≤999999999:=by omega
   have H0:=hid h0;clear hv hB r h hl hb hb' hx hy h0;simp only[List.length_cons,List.length_nil];go_enter func70,ntmps70
   go_wp2;refine wp_loop_rounds 3 ?_;rw[rounds_succ];go_wp2;rw[rounds_succ];go_wp2;rw[rounds_succ];go_wp2;go_ret
   exact⟨dC (by have:=H0.out;omega),rfl⟩
 | _ :: _ :: _ :: _,hl=>simp at hl
theorem oW (v1:Value)(a d:Nat)(hd:0<d)(hdB:d<BB)(hl:(ae a).length≤100000)(w:World)(h1:Rd .u32 w v1 (ae a)) :
 Calls Tryz.prog 88 #[v1,.int .u32 (d:Int)] w fun e w'=>∃ v,e=.returned (.tuple #[v,.int .u32 ((a%d:Nat):Int)])∧Own .u32 89 w.heap.size w' v (ae (a / d))∧Below w.heap.size w w':=by
 obtain⟨i0,hi,hz0,hz1,hz2⟩:=info_parts Tryz.info89;obtain⟨p,c,rfl,r1⟩:=h1.gen;have hv:=aB a;have hx:=aQ a;generalize ae a=xs at *;obtain ⟨HX,HV,HR⟩:=ah hx hv r1;have hd1:(1:Int)≤(d:Int):=by omega
 have hd2:(d:Int)≤999999999:=by rw[aJ]at hdB;omega
 have hdz:((d:Int)==0)=false:=beq_eq_false_iff_ne.2 (by omega);have HD:=hid hd;clear h1 hx hv r1 hd hdB;go_enter func88,ntmps88
 go_wp2_with (at_make;refine wpList_make_full _ rfl _ _ 49 rfl w.heap.size 89 i0 (.int .u32 0) 1 underlying49 hi hz0 hz1 _ _ _ _ xs.length rfl rfl (by omega) (by omega) ?b2 ?b3 (Nat.le_refl _) ?_)
 case b2=>rw[hz2];omega
 case b3=>unfold maxLen;omega
 intro w0 hown0 hgrow0;have HB0:=hid (show Blk4 w0 w.heap.size (List.replicate xs.length 0) from Blk4.of_made hown0 (iO _));have HN0:=hid ((Below.refl w.heap.size w).grown hgrow0 (Nat.le_refl _) (fun k h=>by cases h));clear hown0 hgrow0;go_wp2;go_loopw [7,8] (fun rr ii wr=>∃ (z:Int) (r:Nat) (os:List Nat),-1≤z∧z<xs.length∧ii=.int .i64 z∧rr=.int .u64 (r:Int)∧Hid (qU xs os d (z+1).toNat r)∧Hid (Blk4 wr w.heap.size (List.replicate (z+1).toNat 0++os))∧Hid (Below w.heap.size w wr)) (fun _ ii _=>(intOf ii+1).toNat)
 case atStart=>exact⟨(xs.length:Int)-1,0,[],by omega,by omega,rfl,rfl,by rw[show((xs.length:Int)-1+1).toNat=xs.length by omega];exact qU.start xs HD.out,by rw[show((xs.length:Int)-1+1).toNat=xs.length by omega,List.append_nil];exact HB0,HN0⟩
 case round =>
  obtain⟨z,r,os,hz1',hz8,rfl,rfl,hI,hB,hn⟩:=hrel;by_cases hz:0≤z
  · obtain⟨j,rfl⟩:=Int.eq_ofNat_of_zero_le hz
    have hj:j<xs.length:=by omega
    have hI':=hI.out;have hB':=hB.out;rw[show((j:Int)+1).toNat=j+1 by omega]at hI' hB';obtain⟨b1,o1,rfl,hb1,hc1⟩:=HR.out j hj;have hcx:=(hn.out.cell (p:=⟨b1,o1+j,none⟩) hb1).trans hc1;have hxw:=HX.out _ (aW hj);have hst:=hI'.step hj HX.out;have hr:=hI'.2.2.1;rw[iD,List.append_assoc]at hB';have e1:(List.replicate j 0++([0]++os)).getD j 0=0:=by simp[List.getD]
    have hcell:=hB'.cell (i:=j) (by simp);have hfree:=hB'.free j;have hset:=hB'.set j ((r*BB+xs.getD j 0) / d);have e2:(List.replicate j 0++([0]++os)).set j ((r*BB+xs.getD j 0) / d)=List.replicate j 0++((r*BB+xs.getD j 0) / d :: os):=by simp
    rw[e1]at hcell;rw[e2]at hset;have hqB:=nK hr hxw;have hbel:=hn.out.setCell (p:=⟨w.heap.size,j,none⟩) (Nat.le_refl _) (.int .u32 (((r*BB+xs.getD j 0) / d:Nat):Int));obtain ⟨HS,HI,HBL⟩:=ah hset hst hbel;clear hI' hB' hst e1 e2 hset hbel hI hB hn hb1 hc1;generalize xs.getD j 0=x at *;rw[aJ]at hxw;have hr2:r<999999999:=by omega
    obtain⟨q,hq⟩:∃ q,q=(r*BB+x) / d:=⟨_,rfl⟩;obtain⟨m,hm⟩:∃ m,m=(r*BB+x)%d:=⟨_,rfl⟩;rw[← hq]at hqB HS HI HBL;rw[← hm]at HI;have hqI:((r:Int)*1000000000+(x:Int)) / (d:Int)=(q:Int):=by rw[hq,aJ];rfl
    have hmI:((r:Int)*1000000000+(x:Int))%(d:Int)=(m:Int):=by rw[hm,aJ];rfl
    have k1:(x:Int)≤999999999:=by omega
    have k2:(r:Int)≤999999999:=by omega
    have k3:(q:Int)≤999999999:=by rw[aJ]at hqB;omega
    clear hq hm hxw hr hr2 hqB;go_wp2;go_roundw
    case rel=>exact⟨(j:Int)-1,m,q :: os,by omega,by omega,rfl,bY hmI,by rw[show((j:Int)-1+1).toNat=j by omega];exact HI,by rw[show((j:Int)-1+1).toNat=j by omega];exact HS,HBL⟩
    case measure=>simp[intOf]
  · have hz0':(z+1).toNat=0:=by omega
    have hI':=hI.out;have hB':=hB.out;rw[hz0']at hI' hB';obtain⟨g1,g2,g3,g4⟩:=hI';rw[List.drop_zero,HV.out]at g4;rw[List.replicate_zero,List.nil_append]at hB';have hown:=Blk4.own hB' (Nat.le_refl _) (by unfold maxLen;omega);have hq:aj os=a / d:=by rw[g4,Nat.add_comm,Nat.add_mul_div_right _ _ HD.out,Nat.div_eq_of_lt g3,Nat.zero_add]
    have hm:r=a%d:=by rw[g4,Nat.add_comm,Nat.add_mul_mod_self_right,Nat.mod_eq_of_lt g3]
    have htr:=gG 89 w.heap.size _ os g2 wr hown;rw[g1,Nat.sub_zero,hq]at htr;obtain ⟨HTR,HM⟩:=aD htr hm;have k2:(r:Int)≤999999999:=by omega
    clear g1 g2 g3 g4 hB' hown hq htr hz0' hm;go_wp2_with fail
    refine HTR.out.mono ?_;rintro e w2 ⟨v',rfl,hown,rfl⟩;go_wp2;go_ret2
    exact⟨v',lQ (by rw[HM.out]),hown,hn.out⟩
open Go.RowKit
abbrev CL (f : FuncId) (args : Array Value) (v : Value) : Prop := ∀ W, La W → Calls Tryz.prog f args W fun e w' => e = .returned v ∧ Below W.heap.size W w'
end Go.Proofs.YtlgkolkcokaefaaGreatDoor
set_option maxRecDepth 100000
set_option maxHeartbeats 20000000
open Go.Lib (hid)
namespace Go.Proofs.YtlgkolkcokaefaaGreatDoor
open Go.RowKit Go.Gb
theorem Kp.undrew {S:Nat→Prop}{a b:World}(h:Kp S a.drew b):Kp S a b:=⟨h.os,h.tape,h.output,h.size,h.block⟩
theorem jl {w:World}{g k a b c d:Nat}{o n:Bool}{vf vs vp vq:Value}(h:Eb w g vf vs vp vq n)(hs:Sb w k a b c d o):g≠k:=by
 intro e;subst e;unfold Eb at h
 unfold Sb at hs
 rw[h]at hs;injection hs with hs
 injection hs with e1 e2 e3
 exact absurd e2 (by decide)
theorem xB {w w':World}{k a b c d:Nat}{o:Bool}(hs:Sb w k a b c d o){Z:Nat→Prop}(hk:Kp Z w w')(hn:¬ Z k):Sb w' k a b c d o:=by
 unfold Sb at *
 rw[hk.block k (Array.getElem?_eq_some_iff.1 hs).1 hn];exact hs
theorem kv {w:World}{k a b c d B:Nat}{o:Bool}{v:Value}{xs:List Nat}(h:Sb w k a b c d o)(ho:Own .u64 110 B w v xs):¬ At v k:=by
 intro hg;obtain⟨_,h2⟩:=ho;rcases h2 with⟨rfl,_⟩|⟨j,cap,cur,rfl,_,hh,_⟩
 · exact at_nil _ _ _ hg
 · rw[eZ]at hg
   subst hg;unfold Sb at h
   rw[h]at hh;injection hh with hh
   injection hh with e1 e2 e3
   exact absurd e2 (by decide)
theorem St4.blendPQ {B g k:Nat}{w w':World}{vf vs vp vq u1 u2:Value}{F S P Q P' Q' a b c d:Nat}{n o:Bool}(L:St4 B w vf vs vp vq F S P Q)(E:Eb w g vf vs vp vq n)(K:Sb w k a b c d o)(hB:B≤w.heap.size)
 (o1:Own .u64 110 B w' u1 (ae P')) (o2:Own .u64 110 B w' u2 (ae Q')) (ap:Apt u1 u2) (n1:fD w vp u1) (n2:fD w vq u2) (hk:Kp (fun g=>At vp g∨At vq g) w w') :
 St4 B w' vf vs u1 u2 F S P' Q'∧Eb w' g vf vs vp vq n∧Sb w' k a b c d o∧Below B w w' :=
 ⟨⟨L.f.kp hk (fun _ h1 h2=>h2.elim (L.fp _ h1) (L.fq _ h1)),L.s.kp hk (fun _ h1 h2=>h2.elim (L.sp _ h1) (L.sq _ h1)),o1,o2,L.fs,(L.fp.symm.newOr n1 (fun _ h=>(L.f.at h).2)).symm,(L.fq.symm.newOr n2 (fun _ h=>(L.f.at h).2)).symm,
   (L.sp.symm.newOr n1 (fun _ h=>(L.s.at h).2)).symm,(L.sq.symm.newOr n2 (fun _ h=>(L.s.at h).2)).symm,ap⟩,
  E.kp hk (fun h=>h.elim (E.apart L.p) (E.apart L.q)),xB K hk (fun h=>h.elim (kv K L.p) (kv K L.q)),hk.below hB (fun _ h=>h.elim (fun h=>(L.p.at h).1) (fun h=>(L.q.at h).1))⟩
theorem St4.blendFS {B g k:Nat}{w w':World}{vf vs vp vq u1 u2:Value}{F S P Q F' S' a b c d:Nat}{n o:Bool}(L:St4 B w vf vs vp vq F S P Q)(E:Eb w g vf vs vp vq n)(K:Sb w k a b c d o)(hB:B≤w.heap.size)
 (o1:Own .u64 110 B w' u1 (ae F')) (o2:Own .u64 110 B w' u2 (ae S')) (ap:Apt u1 u2) (n1:fD w vf u1) (n2:fD w vs u2) (hk:Kp (fun g=>At vf g∨At vs g) w w') :
 St4 B w' u1 u2 vp vq F' S' P Q∧Eb w' g vf vs vp vq n∧Sb w' k a b c d o∧Below B w w' :=
 ⟨⟨o1,o2,L.p.kp hk (fun _ h1 h2=>h2.elim (fun h=>L.fp _ h h1) (fun h=>L.sp _ h h1)),L.q.kp hk (fun _ h1 h2=>h2.elim (fun h=>L.fq _ h h1) (fun h=>L.sq _ h h1)),ap,L.fp.newOr n1 (fun _ h=>(L.p.at h).2),L.fq.newOr n1 (fun _ h=>(L.q.at h).2),
   L.sp.newOr n2 (fun _ h=>(L.p.at h).2),L.sq.newOr n2 (fun _ h=>(L.q.at h).2),L.pq⟩,
  E.kp hk (fun h=>h.elim (E.apart L.f) (E.apart L.s)),xB K hk (fun h=>h.elim (kv K L.f) (kv K L.s)),hk.below hB (fun _ h=>h.elim (fun h=>(L.f.at h).1) (fun h=>(L.s.at h).1))⟩
theorem St4.stored {B g:Nat}{w w':World}{vf vs vp vq wf ws wp wq:Value}{F S P Q:Nat}{n:Bool}(L:St4 B w vf vs vp vq F S P Q)(E:Eb w g wf ws wp wq n)(hk:Kp (fun k=>k=g) w w'):St4 B w' vf vs vp vq F S P Q :=
 L.kp hk (fun _ h e=>by subst e;exact h.elim (E.apart L.f) (fun h=>h.elim (E.apart L.s) (fun h=>h.elim (E.apart L.p) (E.apart L.q))))
theorem xW (B g F S P Q a b c d f s:Nat)(n:Bool)(hm:Made a b c d false F S f s)(hf:Fac a b c d)(hd9:d≤1000000000)(hlF:(ae F).length≤80000)(hlS:(ae S).length≤80000)(hlP:(ae P).length≤80000)(hlQ:(ae Q).length≤80000)(w:World)(h:EuSt B w g F S P Q n)(hB:B≤w.heap.size) :
 Calls Tryz.prog 195 #[.pointer (some ⟨g,0,none⟩),.agg #[.int .u64 (a:Int),.int .u64 (b:Int),.int .u64 (c:Int),.int .u64 (d:Int),.bool false]] w fun e w'=>e=.returned (.tuple #[])∧Hid (EuSt B w' g f s (a*P+b*Q) (c*P+d*Q) (n != false))∧Below B w w':=by
 obtain⟨ha9,hb9,hc9⟩:=hf.le hd9 (by omega);obtain⟨vf,vs,vp,vq,hE,hBg,h4⟩:=h;obtain⟨e1,e2⟩:=hm.even;obtain ⟨HE1,HE2,HBg,HB⟩:=aG e1 e2 hBg hB;have hw0:=(Below.refl w.heap.size w).alloc (Nat.le_refl _) (.cells #[.int .u64 (a:Int),.int .u64 (b:Int),.int .u64 (c:Int),.int .u64 (d:Int),.bool false] 192);obtain ⟨HEb,H4,HS,HW⟩:=aG (hE.below hw0) (h4.below hw0) (ku w a b c d false) (hw0.mono hB);have HZ:=hid (show B≤(w.alloc (.cells #[.int .u64 (a:Int),.int .u64 (b:Int),.int .u64 (c:Int),.int .u64 (d:Int),.bool false] 192)).heap.size by rw[World.size_alloc];omega);clear hm hf e1 e2 hBg hB hw0 hE h4;obtain⟨s0,s1,s2,s3,s4⟩:=bC HS.out;obtain⟨k,hk⟩:∃ k,k=w.heap.size:=⟨_,rfl⟩;rw[← hk]at HS s0 s1 s2 s3 s4;have HK:=hid hk;go_enter func195,ntmps195
 go_upto_region 1 with fail
 rw[← hk];clear hk;generalize w.alloc (.cells #[.int .u64 (a:Int),.int .u64 (b:Int),.int .u64 (c:Int),.int .u64 (d:Int),.bool false] 192)=w0 at *;go_wp2;go_quiet (fail)
 have HEb:=hid (show Eb (w0.drewN nq) g vf vs vp vq n from HEb.out);have H4:=hid (show St4 B (w0.drewN nq) vf vs vp vq F S P Q from H4.out.kp ((Kp.refl (fun _=>False) w0).drewN nq) (fun _ _ h=>h));have HS:=hid (show Sb (w0.drewN nq) k a b c d false from HS.out);have HW:=hid (show Below B w (w0.drewN nq) from below_drewN' HW.out nq);have HZ:=hid (show B≤(w0.drewN nq).heap.size from HZ.out);clear s0 s1 s2 s3 s4;generalize w0.drewN nq=w1 at *
 have HBl:=hid (jq B vp vq (ae P) (ae Q) a b c d (a*P+b*Q) (c*P+d*Q) w1.drew (by omega) (by omega) (by omega) (by omega) (by omega) (by omega) (by omega) (by omega)
  (aQ _) (aQ _) (by omega) (by omega) (by rw[aB,aB,Int.natCast_add,Int.natCast_mul,Int.natCast_mul]) (by rw[aB,aB,Int.natCast_add,Int.natCast_mul,Int.natCast_mul]) H4.out.p H4.out.q H4.out.pq HZ.out)
 obtain⟨c0,c1,c2,c3,c4⟩:=HEb.out.cells;go_upto_region 2 with fail
 go_cut [20] (fun _ wx=>∃ vp vq:Value,Hid (Eb wx g vf vs vp vq n)∧Hid (St4 B wx vf vs vp vq F S (a*P+b*Q) (c*P+d*Q))∧Hid (Sb wx k a b c d false)∧Hid (Below B w wx))
 case first =>
  go_region_with (go_at_call 220;go_must (refine HBl.out.mono ?_;rintro e w2 ⟨u1,u2,rfl,o1,o2,ap,n1,n2,hk⟩;obtain⟨r1,r2,r3,r4⟩:=H4.out.blendPQ HEb.out HS.out HZ.out o1 o2 ap n1 n2 (Kp.undrew hk);obtain⟨x1,y1,rfl⟩:=aU o1.rd;obtain⟨x2,y2,rfl⟩:=aU o2.rd;have R1:=hid r1;have R2:=hid r2;have R3:=hid r3;have R4:=hid r4;obtain⟨d0,d1,d2,d3,d4⟩:=r2.cells;have f2:=r2.free 2;have f3:=r2.free 3;clear o1 o2 ap n1 n2 hk r1 r2 r3 r4))
  all_goals
   have K:=(gH (w:=w2) g 2 (.slice x1 (ae (a*P+b*Q)).length y1)).trans (gH g 3 (.slice x2 (ae (c*P+d*Q)).length y2)) (fun _ _ h=>h);have E':=hid (R2.out.set23 (.slice x1 (ae (a*P+b*Q)).length y1) (.slice x2 (ae (c*P+d*Q)).length y2));have L':=hid (R1.out.stored R2.out K);have S':=hid (xB R3.out K (fun e=>jl R2.out R3.out e.symm));have W':=hid (HW.out.trans (R4.out.trans (K.below (Nat.le_trans HZ.out R4.out.size) (fun _ e=>e▸HBg.out))));clear d0 d1 d2 d3 d4 f2 f3 K;go_wp2_with fail
   go_meet
   exact⟨_,_,E',L',S',W'⟩
 case rest =>
  clear HEb H4 HS HW HZ c0 c1 c2 c3 c4 HBl;obtain⟨vp,vq,HEb,H4,HS,HW⟩:=hcut;have HZ:=hid (Nat.le_trans HB.out HW.out.size)
  have HBl:=hid (jq B vf vs (ae F) (ae S) ((a:Int)) (-(b:Int)) (-(c:Int)) ((d:Int)) f s wc.drew (by omega) (by omega) (by omega) (by omega) (by omega) (by omega) (by omega) (by omega)
   (aQ _) (aQ _) (by omega) (by omega) (by rw[aB,aB];exact HE1.out) (by rw[aB,aB];exact HE2.out) H4.out.f H4.out.s H4.out.fs HZ.out)
  obtain⟨c0,c1,c2,c3,c4⟩:=HEb.out.cells;obtain⟨s0,s1,s2,s3,s4⟩:=bC HS.out;have v1:IntKind.i64.wrap (-(a:Int)) = -(a:Int):=IntWalk.i64_in _ (by omega);have v2:IntKind.i64.wrap (-(b:Int)) = -(b:Int):=IntWalk.i64_in _ (by omega);have v3:IntKind.i64.wrap (-(c:Int)) = -(c:Int):=IntWalk.i64_in _ (by omega);have v4:IntKind.i64.wrap (-(d:Int)) = -(d:Int):=IntWalk.i64_in _ (by omega);have v5:IntKind.i64.wrap (b:Int)=(b:Int):=IntWalk.i64_in _ (by omega);have v6:IntKind.i64.wrap (c:Int)=(c:Int):=IntWalk.i64_in _ (by omega);go_upto_region 5 with fail
  go_cut [52] (fun _ wx=>∃ vf vs:Value,Hid (Eb wx g vf vs vp vq n)∧Hid (St4 B wx vf vs vp vq f s (a*P+b*Q) (c*P+d*Q))∧Hid (Sb wx k a b c d false)∧Hid (Below B w wx))
  case first =>
   go_region_with (go_at_call 220;go_must (refine HBl.out.mono ?_;rintro e w2 ⟨u1,u2,rfl,o1,o2,ap,n1,n2,hk⟩;obtain⟨r1,r2,r3,r4⟩:=H4.out.blendFS HEb.out HS.out HZ.out o1 o2 ap n1 n2 (Kp.undrew hk);obtain⟨x1,y1,rfl⟩:=aU o1.rd;obtain⟨x2,y2,rfl⟩:=aU o2.rd;have R1:=hid r1;have R2:=hid r2;have R3:=hid r3;have R4:=hid r4;obtain⟨d0,d1,d2,d3,d4⟩:=r2.cells;have f0:=r2.free 0;have f1:=r2.free 1;clear o1 o2 ap n1 n2 hk r1 r2 r3 r4))
   all_goals
        have K:=(gH (w:=w2) g 0 (.slice x1 (ae f).length y1)).trans (gH g 1 (.slice x2 (ae s).length y2)) (fun _ _ h=>h);obtain ⟨E',L'⟩:=aD (R2.out.set01 (.slice x1 (ae f).length y1) (.slice x2 (ae s).length y2)) (R1.out.stored R2.out K);have S':=hid (xB R3.out K (fun e=>jl R2.out R3.out e.symm));have W':=hid (HW.out.trans (R4.out.trans (K.below (Nat.le_trans HZ.out R4.out.size) (fun _ e=>e▸HBg.out))));clear d0 d1 d2 d3 d4 f0 f1 K;go_wp2_with fail
        go_meet
        exact⟨_,_,E',L',S',W'⟩
  case rest =>
   clear HEb H4 HS HW HZ c0 c1 c2 c3 c4 HBl s0 s1 s2 s3 s4 v1 v2 v3 v4 v5 v6;obtain⟨vf,vs,HEb,H4,HS,HW⟩:=hcut;obtain⟨c0,c1,c2,c3,c4⟩:=HEb.out.cells;obtain⟨s0,s1,s2,s3,s4⟩:=bC HS.out;have f4:=HEb.out.free 4;go_wp2;go_region
   all_goals
        clear c0 c1 c2 c3 c4 s0 s1 s2 s3 s4 f4;go_wp2;go_end0
        have K:Kp (fun k=>k=g) wc (wc.setCell ⟨g,4,none⟩ (.bool n)).drew:=(gH g 4 (.bool n)).drew;refine⟨rfl,⟨vf,vs,vp,vq,?_,HBg.out,H4.out.stored HEb.out K⟩,HW.out.trans (K.below (Nat.le_trans HB.out HW.out.size) (fun _ e=>e▸HBg.out))⟩;have E:=HEb.out.set4 n;have e:(n != false)=n:=by cases n<;>rfl
        rw[e];exact E
open Go.Lib (hid)
theorem z0t (B g F S P Q a b c d f s:Nat)(n:Bool)(hm:Made a b c d true F S f s)(hf:Fac a b c d)(hd9:d≤1000000000)(hlF:(ae F).length≤80000)(hlS:(ae S).length≤80000)(hlP:(ae P).length≤80000)(hlQ:(ae Q).length≤80000)(w:World)(h:EuSt B w g F S P Q n)(hB:B≤w.heap.size) :
 Calls Tryz.prog 195 #[.pointer (some ⟨g,0,none⟩),.agg #[.int .u64 (a:Int),.int .u64 (b:Int),.int .u64 (c:Int),.int .u64 (d:Int),.bool true]] w fun e w'=>e=.returned (.tuple #[])∧Hid (EuSt B w' g f s (a*P+b*Q) (c*P+d*Q) (n != true))∧Below B w w':=by
 obtain⟨ha9,hb9,hc9⟩:=hf.le hd9 (by omega);obtain⟨vf,vs,vp,vq,hE,hBg,h4⟩:=h;obtain⟨e1,e2⟩:=hm.odd;obtain ⟨HE1,HE2,HBg,HB⟩:=aG e1 e2 hBg hB;have hw0:=(Below.refl w.heap.size w).alloc (Nat.le_refl _) (.cells #[.int .u64 (a:Int),.int .u64 (b:Int),.int .u64 (c:Int),.int .u64 (d:Int),.bool true] 192);obtain ⟨HEb,H4,HS,HW⟩:=aG (hE.below hw0) (h4.below hw0) (ku w a b c d true) (hw0.mono hB);have HZ:=hid (show B≤(w.alloc (.cells #[.int .u64 (a:Int),.int .u64 (b:Int),.int .u64 (c:Int),.int .u64 (d:Int),.bool true] 192)).heap.size by rw[World.size_alloc];omega);clear hm hf e1 e2 hBg hB hw0 hE h4;obtain⟨s0,s1,s2,s3,s4⟩:=bC HS.out;obtain⟨k,hk⟩:∃ k,k=w.heap.size:=⟨_,rfl⟩;rw[← hk]at HS s0 s1 s2 s3 s4;have HK:=hid hk;go_enter func195,ntmps195
 go_upto_region 1 with fail
 rw[← hk];clear hk;generalize w.alloc (.cells #[.int .u64 (a:Int),.int .u64 (b:Int),.int .u64 (c:Int),.int .u64 (d:Int),.bool true] 192)=w0 at *;go_wp2;go_quiet (fail)
 have HEb:=hid (show Eb (w0.drewN nq) g vf vs vp vq n from HEb.out);have H4:=hid (show St4 B (w0.drewN nq) vf vs vp vq F S P Q from H4.out.kp ((Kp.refl (fun _=>False) w0).drewN nq) (fun _ _ h=>h));have HS:=hid (show Sb (w0.drewN nq) k a b c d true from HS.out);have HW:=hid (show Below B w (w0.drewN nq) from below_drewN' HW.out nq);have HZ:=hid (show B≤(w0.drewN nq).heap.size from HZ.out);clear s0 s1 s2 s3 s4;generalize w0.drewN nq=w1 at *
 have HBl:=hid (jq B vp vq (ae P) (ae Q) a b c d (a*P+b*Q) (c*P+d*Q) w1.drew (by omega) (by omega) (by omega) (by omega) (by omega) (by omega) (by omega) (by omega)
  (aQ _) (aQ _) (by omega) (by omega) (by rw[aB,aB,Int.natCast_add,Int.natCast_mul,Int.natCast_mul]) (by rw[aB,aB,Int.natCast_add,Int.natCast_mul,Int.natCast_mul]) H4.out.p H4.out.q H4.out.pq HZ.out)
 obtain⟨c0,c1,c2,c3,c4⟩:=HEb.out.cells;go_upto_region 2 with fail
 go_cut [20] (fun _ wx=>∃ vp vq:Value,Hid (Eb wx g vf vs vp vq n)∧Hid (St4 B wx vf vs vp vq F S (a*P+b*Q) (c*P+d*Q))∧Hid (Sb wx k a b c d true)∧Hid (Below B w wx))
 case first =>
  go_region_with (go_at_call 220;go_must (refine HBl.out.mono ?_;rintro e w2 ⟨u1,u2,rfl,o1,o2,ap,n1,n2,hk⟩;obtain⟨r1,r2,r3,r4⟩:=H4.out.blendPQ HEb.out HS.out HZ.out o1 o2 ap n1 n2 (Kp.undrew hk);obtain⟨x1,y1,rfl⟩:=aU o1.rd;obtain⟨x2,y2,rfl⟩:=aU o2.rd;have R1:=hid r1;have R2:=hid r2;have R3:=hid r3;have R4:=hid r4;obtain⟨d0,d1,d2,d3,d4⟩:=r2.cells;have f2:=r2.free 2;have f3:=r2.free 3;clear o1 o2 ap n1 n2 hk r1 r2 r3 r4))
  all_goals
   have K:=(gH (w:=w2) g 2 (.slice x1 (ae (a*P+b*Q)).length y1)).trans (gH g 3 (.slice x2 (ae (c*P+d*Q)).length y2)) (fun _ _ h=>h);have E':=hid (R2.out.set23 (.slice x1 (ae (a*P+b*Q)).length y1) (.slice x2 (ae (c*P+d*Q)).length y2));have L':=hid (R1.out.stored R2.out K);have S':=hid (xB R3.out K (fun e=>jl R2.out R3.out e.symm));have W':=hid (HW.out.trans (R4.out.trans (K.below (Nat.le_trans HZ.out R4.out.size) (fun _ e=>e▸HBg.out))));clear d0 d1 d2 d3 d4 f2 f3 K;go_wp2_with fail
   go_meet
   exact⟨_,_,E',L',S',W'⟩
 case rest =>
  clear HEb H4 HS HW HZ c0 c1 c2 c3 c4 HBl;obtain⟨vp,vq,HEb,H4,HS,HW⟩:=hcut;have HZ:=hid (Nat.le_trans HB.out HW.out.size)
  have HBl:=hid (jq B vf vs (ae F) (ae S) (-(a:Int)) ((b:Int)) ((c:Int)) (-(d:Int)) f s wc.drew (by omega) (by omega) (by omega) (by omega) (by omega) (by omega) (by omega) (by omega)
   (aQ _) (aQ _) (by omega) (by omega) (by rw[aB,aB];exact HE1.out) (by rw[aB,aB];exact HE2.out) H4.out.f H4.out.s H4.out.fs HZ.out)
  obtain⟨c0,c1,c2,c3,c4⟩:=HEb.out.cells;obtain⟨s0,s1,s2,s3,s4⟩:=bC HS.out;have v1:IntKind.i64.wrap (-(a:Int)) = -(a:Int):=IntWalk.i64_in _ (by omega);have v2:IntKind.i64.wrap (-(b:Int)) = -(b:Int):=IntWalk.i64_in _ (by omega);have v3:IntKind.i64.wrap (-(c:Int)) = -(c:Int):=IntWalk.i64_in _ (by omega);have v4:IntKind.i64.wrap (-(d:Int)) = -(d:Int):=IntWalk.i64_in _ (by omega);have v5:IntKind.i64.wrap (b:Int)=(b:Int):=IntWalk.i64_in _ (by omega);have v6:IntKind.i64.wrap (c:Int)=(c:Int):=IntWalk.i64_in _ (by omega);go_upto_region 5 with fail
  go_cut [52] (fun _ wx=>∃ vf vs:Value,Hid (Eb wx g vf vs vp vq n)∧Hid (St4 B wx vf vs vp vq f s (a*P+b*Q) (c*P+d*Q))∧Hid (Sb wx k a b c d true)∧Hid (Below B w wx))
  case first =>
   go_region_with (go_at_call 220;go_must (refine HBl.out.mono ?_;rintro e w2 ⟨u1,u2,rfl,o1,o2,ap,n1,n2,hk⟩;obtain⟨r1,r2,r3,r4⟩:=H4.out.blendFS HEb.out HS.out HZ.out o1 o2 ap n1 n2 (Kp.undrew hk);obtain⟨x1,y1,rfl⟩:=aU o1.rd;obtain⟨x2,y2,rfl⟩:=aU o2.rd;have R1:=hid r1;have R2:=hid r2;have R3:=hid r3;have R4:=hid r4;obtain⟨d0,d1,d2,d3,d4⟩:=r2.cells;have f0:=r2.free 0;have f1:=r2.free 1;clear o1 o2 ap n1 n2 hk r1 r2 r3 r4))
   all_goals
        have K:=(gH (w:=w2) g 0 (.slice x1 (ae f).length y1)).trans (gH g 1 (.slice x2 (ae s).length y2)) (fun _ _ h=>h);obtain ⟨E',L'⟩:=aD (R2.out.set01 (.slice x1 (ae f).length y1) (.slice x2 (ae s).length y2)) (R1.out.stored R2.out K);have S':=hid (xB R3.out K (fun e=>jl R2.out R3.out e.symm));have W':=hid (HW.out.trans (R4.out.trans (K.below (Nat.le_trans HZ.out R4.out.size) (fun _ e=>e▸HBg.out))));clear d0 d1 d2 d3 d4 f0 f1 K;go_wp2_with fail
        go_meet
        exact⟨_,_,E',L',S',W'⟩
  case rest =>
   clear HEb H4 HS HW HZ c0 c1 c2 c3 c4 HBl s0 s1 s2 s3 s4 v1 v2 v3 v4 v5 v6;obtain⟨vf,vs,HEb,H4,HS,HW⟩:=hcut;obtain⟨c0,c1,c2,c3,c4⟩:=HEb.out.cells;obtain⟨s0,s1,s2,s3,s4⟩:=bC HS.out;have f4:=HEb.out.free 4;go_wp2;go_region
   all_goals
        clear c0 c1 c2 c3 c4 s0 s1 s2 s3 s4 f4;go_wp2;go_end0
        have K:Kp (fun k=>k=g) wc (wc.setCell ⟨g,4,none⟩ (.bool (!n))).drew:=(gH g 4 (.bool (!n))).drew;refine⟨rfl,⟨vf,vs,vp,vq,?_,HBg.out,H4.out.stored HEb.out K⟩,HW.out.trans (K.below (Nat.le_trans HB.out HW.out.size) (fun _ e=>e▸HBg.out))⟩;have E:=HEb.out.set4 (!n);have e:(n != true)=(!n):=by cases n<;>rfl
        rw[e];exact E
open Go.ChangeShapes Go.WideShapes Go.ChangeAt Go.WideMaps Go.WideElems Go.RowKit
theorem z3I:Tryz.prog.globalNamed "garboard/integer.zero" = some 1:=by kernel_rfl
theorem z0i:(Tryz.prog.globals[1]?).map (·.type)=some 155:=by kernel_rfl
def jh:List (String × DataW Unit):=[("math/bits.deBruijn32tab",Rows.laid_math_bits_deBruijn32tab),("math/bits.deBruijn64tab",Rows.laid_math_bits_deBruijn64tab),("internal/strconv.uint64pow10",Rows.laid_internal_strconv_uint64pow10),("strconv.ErrRange",Rows.laid_strconv_ErrRange),("strconv.ErrSyntax",Rows.laid_strconv_ErrSyntax),("garboard/integer.zero",Rows.laid_garboard_integer_zero)]
theorem xM {W:World}(h:laidMetH Tryz.prog jh W):La W:=by
 rw[MakeChecks.laidMetH_plain _ _ _ (by kernel_rfl)]at h;obtain⟨ps,⟨g0,t0,cs0,f0,p0,q0,hg0,ht0,hv0,hd0,⟨g1,t1,cs1,f1,p1,q1,hg1,ht1,hv1,hd1,⟨g2,t2,cs2,f2,p2,q2,hg2,ht2,hv2,hd2,⟨g3,t3,cs3,f3,p3,q3,hg3,ht3,hv3,hd3,⟨g4,t4,cs4,f4,p4,q4,hg4,ht4,hv4,hd4,⟨g5,t5,cs5,f5,p5,q5,hg5,ht5,hv5,hd5,_,_⟩,_⟩,_⟩,_⟩,_⟩,_⟩,_,_⟩:=h;obtain rfl:=Option.some.inj (gTab.symm.trans hg2);obtain rfl:=Option.some.inj (wJ.symm.trans ht2);obtain rfl:=Option.some.inj (z3I.symm.trans hg5);obtain rfl:=Option.some.inj (z0i.symm.trans ht5);refine⟨?_,?_⟩
 · unfold Tb Lib.TabIs
   rw[hv2];congr 1
   apply Array.ext'
   rw[Lib.cells_of_tab (k:=.u64) (zs:=Lib.pow10Tab) underlying237 underlying110 wQ wR hd2]
 · obtain⟨k0,k1,hu,e0,o0,e1,o1⟩:∃ k0 k1:Field,Tryz.prog.underlying 155=some (.struct #[k0,k1])∧k0.type=3∧k0.offset=0∧k1.type=9∧k1.offset=1:=⟨_,_,underlying155,rfl,rfl,rfl,rfl⟩
   obtain⟨y0,y1,n,hx,hlen,h0,h1⟩:=trod_struct2 hu hd5;rw[e0,o0]at h0;rw[e1,o1]at h1;obtain⟨m,hc0,hy0,_⟩:=DataW.trod_int underlying3 h0;obtain⟨s,hc1,hy1,_⟩:=DataW.trod_string underlying9 h1;subst hy0 hy1;have hc:Tryz.prog.cellsOf 155=2:=by kernel_rfl
   have hci:Tryz.prog.cellsOf 3=1:=by kernel_rfl
   have hcs:Tryz.prog.cellsOf 9=1:=by kernel_rfl
   rw[hc]at hlen;rw[hci]at hc0;rw[hcs]at hc1
   have hd:m=0∧s.data.toList=[48]:=by
    have:=congrArg Prod.fst hx;simpa [Rows.laid_garboard_integer_zero,eq_comm] using this
   obtain⟨rfl,hs⟩:=hd
   have hs':s=⟨#[48]⟩:=by
    cases s with
    | mk d=>exact congrArg ByteArray.mk (Array.ext' hs)
   subst hs'
   have hl:cs5.toList=[.int .i64 0,.string ⟨#[48]⟩]:=by
    match hcs5:cs5.toList,hlen with
    | [a,b],_ =>
      rw[hcs5]at hc0 hc1;simp at hc0 hc1
      rw[hc0,hc1]
   have g0':=World.var?_cell z3I hv5 0;have g1':=World.var?_cell z3I hv5 1;have ha:cs5=#[.int .i64 0,.string ⟨#[48]⟩]:=Array.ext' hl;rw[ha]at g0' g1';have c0:W.cell? ⟨1,0,none⟩=some (.int .i64 0):=by simpa using g0'
   have c1:W.cell? ⟨1,1,none⟩=some (.string ⟨#[48]⟩):=by simpa using g1'
   exact⟨World.block_lt_of_cell? W _ c0,c0,c1⟩
theorem z0u (os:Os)(args:Array Value):laidMetH Tryz.prog jh ((World.doorLaid Tryz.prog 4000 os).forCall (fun _ _=>0) ⟨#[],args,[]⟩).memory:=by
 rw[MakeChecks.laidMetH_plain _ _ _ (by kernel_rfl)];exact laidMet_of_run' 8 (by kernel_rfl) (by kernel_rfl)
end Go.Proofs.YtlgkolkcokaefaaGreatDoor
namespace Go.Proofs.YtlgkolkcokaefaaGreatDoor
open Go.ChangeShapes Go.WideShapes Go.ChangeAt Go.WideMaps Go.WideElems Go.RowKit Go.Gb Go.Joins
open Go.ChangeMaps (open_string shut_string)
theorem z1L {H:Type}{enc:TypeId × Value→H}{W:World}{base b0:Nat}{spare:Nat→Bool}{held:Bool}{r:Reach}{v:Value}{d:DataW H}{p:List MemPlace}
 (hv:Value.okWide Tryz.prog W r b0 29 v) (h:DataW.Trod enc Tryz.prog W base spare held 29 v d p) :
 ∃ x y z:ByteArray,v=.agg #[.string x,.string y,.string z]∧d=.agg [.lit (.string x.data.toList),.lit (.string y.data.toList),.lit (.string z.data.toList)]∧p=[]∧x.size≤maxLen∧y.size≤maxLen∧z.size≤maxLen:=by
 obtain⟨c0,c1,c2,y0,y1,y2,m,rfl,rfl,rfl,hy0,hy1,hy2⟩:=open_agg3 underlying29 (by kernel_rfl) (by kernel_rfl) hv h;obtain⟨x,e0,rfl,wx⟩:=DataW.trod_string underlying22 hy0;obtain⟨y,e1,rfl,wy⟩:=DataW.trod_string underlying22 hy1;obtain⟨z,e2,rfl,wz⟩:=DataW.trod_string underlying22 hy2;simp at e0 e1 e2
 subst e0 e1 e2;exact⟨x,y,z,rfl,rfl,rfl,wx,wy,wz⟩
theorem z1s {H:Type}{enc:TypeId × Value→H}{W:World}{base:Nat}{spare:Nat→Bool}{held:Bool}{x y z:ByteArray}(hx:x.size≤maxLen)(hy:y.size≤maxLen)(hz:z.size≤maxLen) :
 DataW.Trod enc Tryz.prog W base spare held 29 (.agg #[.string x,.string y,.string z]) (.agg [.lit (.string x.data.toList),.lit (.string y.data.toList),.lit (.string z.data.toList)]) [] :=
 shut_agg3 (y0:=(.lit (.string x.data.toList),[])) (y1:=(.lit (.string y.data.toList),[])) (y2:=(.lit (.string z.data.toList),[])) underlying29 (by kernel_rfl) (by kernel_rfl) ⟨1,by simp[DataW.trod,underlying22,hx]⟩ ⟨1,by simp[DataW.trod,underlying22,hy]⟩ ⟨1,by simp[DataW.trod,underlying22,hz]⟩
theorem z1M {H:Type}{enc:TypeId × Value→H}{W:World}{base b0:Nat}{spare:Nat→Bool}{held:Bool}{r:Reach}{v:Value}{d:DataW H}{p:List MemPlace}
 (hv:Value.okWide Tryz.prog W r b0 24 v) (h:DataW.Trod enc Tryz.prog W base spare held 24 v d p) :
 ∃ l u:ByteArray,v=.agg #[.string l,.string u]∧d=.agg [.lit (.string l.data.toList),.lit (.string u.data.toList)]∧p=[]∧l.size≤maxLen∧u.size≤maxLen:=by
 obtain⟨c0,c1,y0,y1,m,rfl,rfl,rfl,hy0,hy1⟩:=open_agg2 underlying24 (by kernel_rfl) (by kernel_rfl) hv h;obtain⟨l,e0,rfl,wl⟩:=DataW.trod_string underlying22 hy0;obtain⟨u,e1,rfl,wu⟩:=DataW.trod_string underlying22 hy1;simp at e0 e1
 subst e0 e1;exact⟨l,u,rfl,rfl,rfl,wl,wu⟩
theorem z1t {H:Type}{enc:TypeId × Value→H}{W:World}{base:Nat}{spare:Nat→Bool}{held:Bool}{l u:ByteArray}(hl:l.size≤maxLen)(hu:u.size≤maxLen) :
 DataW.Trod enc Tryz.prog W base spare held 24 (.agg #[.string l,.string u]) (.agg [.lit (.string l.data.toList),.lit (.string u.data.toList)]) [] :=
 shut_agg2 (y0:=(.lit (.string l.data.toList),[])) (y1:=(.lit (.string u.data.toList),[])) underlying24 (by kernel_rfl) (by kernel_rfl) ⟨1,by simp[DataW.trod,underlying22,hl]⟩ ⟨1,by simp[DataW.trod,underlying22,hu]⟩
end Go.Proofs.YtlgkolkcokaefaaGreatDoor
