/- texts -/
import Derived.Test.YtikihamjpenboaaGreatDoorMz15q
import Derived.Test.YtikihamjpenboaaGreatDoorMz14q
import Derived.Lib.CutLaws
import Derived.Test.YtikihamjpenboaaGreatDoorMz18q
import Derived.Test.YtikihamjpenboaaGreatDoorCards
import Derived.Test.YtikihamjpenboaaGreatDoorTie
import Derived.ProofKit
import Derived.LaidMore
import Derived.OpenShut
open Go.Proofs.Tryz
namespace Go.Gb
theorem z3Q {Yt Z V r P t c B:Nat}(hZ:Z<P)(hr:r<P)(hs:Yt+V=Z+P*c)(hY:Yt+P*t+V=r+P*B):c+t=B:=by
 have h:Z+P*(c+t)=r+P*B:=by rw[Nat.mul_add];omega
 have hP:0<P:=by omega
 have h1:=congrArg (· / P) h;simp only[Nat.add_mul_div_left _ _ hP,Nat.div_eq_of_lt hZ,Nat.div_eq_of_lt hr,Nat.zero_add]at h1;exact h1
end Go.Gb
namespace Go.Proofs.YtikihamjpenboaaGreatDoor
open Go.RowKit Go.Gb
def Row4 (w:World) (g cap:Nat) (zs:List Nat):Prop:=∃ cur:Array Value,w.heap[g]? = some (.cells cur 89 (0,0))∧cur.size=cap∧zs.length≤cap∧cur.toList.take zs.length=cls .u32 zs
theorem Row4.lt {w:World}{g cap:Nat}{zs:List Nat}(h:Row4 w g cap zs):g<w.heap.size:=by
 obtain⟨cur,h1,_⟩:=h;exact(Array.getElem?_eq_some_iff.1 h1).1
theorem Row4.le {w:World}{g cap:Nat}{zs:List Nat}(h:Row4 w g cap zs):zs.length≤cap:=by
 obtain⟨cur,_,_,h3,_⟩:=h;exact h3
theorem Row4.cell {w:World}{g cap:Nat}{zs:List Nat}(h:Row4 w g cap zs){i:Nat}(hi:i<zs.length):w.cell? ⟨g,i,none⟩=some (.int .u32 ((zs.getD i 0:Nat):Int)):=by
 obtain⟨cur,h1,h2,h3,h4⟩:=h;have h5:=jM (k:=.u32) hi;rw[← h4,List.getElem?_take,if_pos hi]at h5;simp only[World.cell?,h1];simpa using h5
theorem Row4.free {w:World}{g cap:Nat}{zs:List Nat}(h:Row4 w g cap zs)(i:Nat):w.frozen? ⟨g,i,none⟩=false:=by
 obtain⟨cur,h1,h2,h3,h4⟩:=h;simp only[World.frozen?,h1];simp
theorem Row4.set {w:World}{g cap:Nat}{zs:List Nat}(h:Row4 w g cap zs)(i v:Nat):Row4 (w.setCell ⟨g,i,none⟩ (.int .u32 ((v:Nat):Int))) g cap (zs.set i v):=by
 obtain⟨cur,h1,h2,h3,h4⟩:=h;refine⟨cur.setIfInBounds i (.int .u32 (v:Int)),?_,by simp[h2],by simpa using h3,?_⟩
 · simp only[World.setCell,Array.getElem?_modify,h1]
   simp
 · rw[List.length_set,sW,← h4,Array.toList_setIfInBounds,List.take_set]
theorem Row4.aside {w:World}{g cap k i:Nat}{zs:List Nat}{v:Value}(h:Row4 w g cap zs)(hne:g≠k):Row4 (w.setCell ⟨k,i,none⟩ v) g cap zs:=by
 obtain⟨cur,h1,h2,h3,h4⟩:=h;exact⟨cur,by rw[Below.heap_setCell _ _ _ _ hne];exact h1,h2,h3,h4⟩
theorem Row4.below {w w':World}{g cap:Nat}{zs:List Nat}(h:Row4 w g cap zs)(hb:Below w.heap.size w w'):Row4 w' g cap zs:=by
 obtain⟨cur,h1,h2,h3,h4⟩:=h;exact⟨cur,by rw[hb.block g (Array.getElem?_eq_some_iff.1 h1).1];exact h1,h2,h3,h4⟩
theorem Row4.drewN {w:World}{g cap:Nat}{zs:List Nat}(h:Row4 w g cap zs)(n:Nat):Row4 (w.drewN n) g cap zs:=h
theorem Row4.take {w:World}{g cap:Nat}{zs:List Nat}(h:Row4 w g cap zs)(m:Nat)(hm:m≤zs.length):Row4 w g cap (zs.take m):=by
 obtain⟨cur,h1,h2,h3,h4⟩:=h;refine⟨cur,h1,h2,by simp;omega,?_⟩;rw[nJ,← h4,List.take_take,List.length_take,Nat.min_eq_left hm]
theorem Row4.own {w:World}{g cap B:Nat}{zs:List Nat}(h:Row4 w g cap zs)(hB:B≤g)(hm:cap≤maxLen):Own .u32 89 B w (.slice (some ⟨g,0,none⟩) zs.length cap) zs:=by
 obtain⟨cur,h1,h2,h3,h4⟩:=h;refine⟨by simp[cls],Or.inr ⟨g,cap,cur,rfl,hB,h1,h3,hm,by simp[h2],?_⟩⟩;rw[Nat.mul_one];exact h4
theorem Row4.of_own {w:World}{B:Nat}{v:Value}{zs:List Nat}(h:Own .u32 89 B w v zs)(hp:0<zs.length):∃ g cap,v=.slice (some ⟨g,0,none⟩) zs.length cap∧B≤g∧cap≤maxLen∧Row4 w g cap zs:=by
 obtain⟨h1,h2⟩:=h;rcases h2 with⟨h2,h3⟩|⟨g,cap,cur,hv,hg,hh,hn,hc,hs,ht⟩
 · omega
 · rw[Nat.mul_one]at hs ht
   exact⟨g,cap,hv,hg,hc,cur,hh,hs,hn,ht⟩
set_option maxRecDepth 100000
set_option maxHeartbeats 20000000
open Go.Lib (hid)
theorem Blk4.alloc {w:World}(zs:List Nat)(cs:Array Value)(h:cs=(cls .u32 zs).toArray):Blk4 (w.alloc (.cells cs 89)) w.heap.size zs:=by
 unfold Blk4
 rw[heap_alloc_new,h]
theorem ug (zs:List Nat)(hB:∀ z∈zs,z<BB)(hl:zs.length≤10)(cs:Array Value)(h:cs=(cls .u32 zs).toArray)(n:Nat)(hn:n=zs.length)(w:World) :
 Calls Tryz.prog 92 #[.slice (some ⟨w.heap.size,0,none⟩) n n] (w.alloc (.cells cs 89)) fun e w'=>∃ v',e=.returned v'∧Own .u32 89 w.heap.size w' v' (ae (ai zs))∧w.alloc (.cells cs 89)=w':=by
 subst hn;exact(ig 89 w.heap.size _ zs hB _ ((Blk4.alloc zs cs h).own (Nat.le_refl _) (by unfold maxLen;omega))).mono fun e w' ⟨v',h1,h2,h3⟩=>⟨v',h1,h3▸h2,h3⟩
theorem mV (n:Nat)(hn:n<4294967296)(w:World) :
 Calls Tryz.prog 57 #[.int .u32 (n:Int)] w fun e w'=>∃ v,e=.returned v∧Own .u32 89 w.heap.size w' v (ae n)∧Below w.heap.size w w':=by
 obtain⟨lo,hlo⟩:∃ lo,lo=n%BB:=⟨_,rfl⟩;obtain⟨hi,hhi⟩:∃ hi,hi=n / BB:=⟨_,rfl⟩;have e1:(n:Int)%1000000000=(lo:Int):=by rw[hlo,aG];omega
 have e2:(n:Int) / 1000000000=(hi:Int):=by rw[hhi,aG];omega
 have htr:=ug [lo,hi] (by intro z hz;simp at hz;rcases hz with rfl|rfl;· rw[hlo];exact Nat.mod_lt _ bE
                          · rw[hhi,Nat.div_lt_iff_lt_mul bE,aG];omega) (by simp) #[.int .u32 (lo:Int),.int .u32 (hi:Int)] (by simp[cls]) 2 rfl w
 rw[show ai [lo,hi]=n by simp only[ai,Nat.mul_zero,Nat.add_zero];rw[hlo,hhi];exact Nat.mod_add_div _ _]at htr;have HTR:=hid htr;have k1:(n:Int)≤4294967295:=by omega
 have k2:(lo:Int)≤999999999:=by rw[aG]at hlo;omega
 have k3:(hi:Int)≤4:=by rw[aG]at hhi;omega
 clear htr hlo hhi hn;go_enter func57,ntmps57
 go_wp2_with fail
 refine HTR.o.mono ?_;rintro e w2 ⟨v',rfl,hown,rfl⟩;go_wp2;go_ret
 exact⟨v',rfl,hown,(Below.refl _ _).alloc (Nat.le_refl _) _⟩
theorem z7b (n:Nat)(hn:n<18446744073709551616)(w:World) :
 Calls Tryz.prog 93 #[.int .u64 (n:Int)] w fun e w'=>∃ v,e=.returned v∧Own .u32 89 w.heap.size w' v (ae n)∧Below w.heap.size w w':=by
 obtain⟨a,ha⟩:∃ a,a=n%BB:=⟨_,rfl⟩;obtain⟨q,hq⟩:∃ q,q=n / BB:=⟨_,rfl⟩;obtain⟨b,hb⟩:∃ b,b=q%BB:=⟨_,rfl⟩;obtain⟨c,hc⟩:∃ c,c=q / BB:=⟨_,rfl⟩;have e1:(n:Int)%1000000000=(a:Int):=by rw[ha,aG];omega
 have e2:(n:Int) / 1000000000=(q:Int):=by rw[hq,aG];omega
 have e3:(q:Int)%1000000000=(b:Int):=by rw[hb,aG];omega
 have e4:(q:Int) / 1000000000=(c:Int):=by rw[hc,aG];omega
 have k2:(a:Int)≤999999999:=by rw[aG]at ha;omega
 have k3:(b:Int)≤999999999:=by rw[aG]at hb;omega
 have k5:(q:Int)≤18446744073:=by rw[aG]at hq;omega
 have k4:(c:Int)≤18:=by rw[aG]at hc;omega
 have htr:=ug [a,b,c] (by intro z hz;simp at hz;rw[aG];rcases hz with rfl|rfl|rfl<;>omega) (by simp) #[.int .u32 (a:Int),.int .u32 (b:Int),.int .u32 (c:Int)] (by simp[cls]) 3 rfl w
 rw[show ai [a,b,c]=n by
  simp only[ai,Nat.mul_zero,Nat.add_zero]
  rw[hb,hc,Nat.mod_add_div,ha,hq,Nat.mod_add_div]]at htr
 have HTR:=hid htr;have k1:(n:Int)≤18446744073709551615:=by omega
 clear htr ha hq hb hc hn;go_enter func93,ntmps93
 go_wp2_with fail
 refine HTR.o.mono ?_;rintro e w2 ⟨v',rfl,hown,rfl⟩;go_wp2;go_ret
 exact⟨v',rfl,hown,(Below.refl _ _).alloc (Nat.le_refl _) _⟩
theorem z5x (v:Value)(a:Nat)(hl:(ae a).length≤2)(w:World)(h:Rd .u32 w v (ae a)) :
 Calls Tryz.prog 63 #[v] w fun e w'=>e=.returned (.int .u64 (a:Int))∧w=w':=by
 obtain⟨p,c,rfl,r⟩:=h.gen;have hv:=ax a;have hB:=aQ a;generalize ae a=xs at *
 match xs,hl with
 | [],_ =>
   have h0:a=0:=by rw[← hv];rfl
   subst h0;clear hv hB r h hl;simp only[List.length_nil];go_enter func63,ntmps63
   go_wp2;refine wp_loop_rounds 1 ?_;rw[rounds_succ];go_wp2;go_ret
   exact⟨rfl,rfl⟩
 | [x],_ =>
   have h0:a=x:=by rw[← hv];simp[ai]
   have hx:=hB x (by simp);rw[aG]at hx;subst h0;obtain⟨b,o,rfl,hb,hc⟩:=r 0 (by simp);simp only[List.getD_cons_zero,Nat.add_zero]at hc;have k1:(a:Int)≤999999999:=by omega
   clear hv hB r h hl hb hx;simp only[List.length_cons,List.length_nil];go_enter func63,ntmps63
   go_wp2;refine wp_loop_rounds 2 ?_;rw[rounds_succ];go_wp2;rw[rounds_succ];go_wp2;go_ret
   exact⟨rfl,rfl⟩
 | [x,y],_ =>
   have hx:=hB x (by simp);have hy:=hB y (by simp);have h0:a=x+1000000000*y:=by rw[← hv];simp only[ai,Nat.mul_zero,Nat.add_zero];rw[aG]
   rw[aG]at hx hy;obtain⟨b,o,rfl,hb,hc⟩:=r 0 (by simp);obtain⟨b',o',hp,hb',hc'⟩:=r 1 (by simp);injection hp with hp
   injection hp with e1 e2 e3
   subst e1 e2;simp only[List.getD_cons_zero,List.getD_cons_succ,Nat.add_zero]at hc hc';have k1:(x:Int)≤999999999:=by omega
   have k2:(y:Int)≤999999999:=by omega
   have H0:=hid h0;clear hv hB r h hl hb hb' hx hy h0;simp only[List.length_cons,List.length_nil];go_enter func63,ntmps63
   go_wp2;refine wp_loop_rounds 3 ?_;rw[rounds_succ];go_wp2;rw[rounds_succ];go_wp2;rw[rounds_succ];go_wp2;go_ret
   exact⟨dM (by have:=H0.o;omega),rfl⟩
 | _ :: _ :: _ :: _,hl=>simp at hl
theorem qM (v1:Value)(a d:Nat)(hd:0<d)(hdB:d<BB)(hl:(ae a).length≤100000)(w:World)(h1:Rd .u32 w v1 (ae a)) :
 Calls Tryz.prog 127 #[v1,.int .u32 (d:Int)] w fun e w'=>∃ v,e=.returned (.tuple #[v,.int .u32 ((a%d:Nat):Int)])∧Own .u32 89 w.heap.size w' v (ae (a / d))∧Below w.heap.size w w':=by
 obtain⟨i0,hi,hz0,hz1,hz2⟩:=info_parts Tryz.info89;obtain⟨p,c,rfl,r1⟩:=h1.gen;have hv:=ax a;have hx:=aQ a;generalize ae a=xs at *;obtain ⟨HX,HV,HR⟩:=ak hx hv r1;have hd1:(1:Int)≤(d:Int):=by omega
 have hd2:(d:Int)≤999999999:=by rw[aG]at hdB;omega
 have hdz:((d:Int)==0)=false:=beq_eq_false_iff_ne.2 (by omega);have HD:=hid hd;clear h1 hx hv r1 hd hdB;go_enter func127,ntmps127
 go_wp2_with (at_make;refine wpList_make_full _ rfl _ _ 47 rfl w.heap.size 89 i0 (.int .u32 0) 1 underlying47 hi hz0 hz1 _ _ _ _ xs.length rfl rfl (by omega) (by omega) ?b2 ?b3 (Nat.le_refl _) ?_)
 case b2=>rw[hz2];omega
 case b3=>unfold maxLen;omega
 intro w0 hown0 hgrow0;have u6:=hid (show Blk4 w0 w.heap.size (List.replicate xs.length 0) from Blk4.of_made hown0 (gL _));have HN0:=hid ((Below.refl w.heap.size w).grown hgrow0 (Nat.le_refl _) (fun k h=>by cases h));clear hown0 hgrow0;go_wp2;go_loopw [7,8] (fun rr ii wr=>∃ (z:Int) (r:Nat) (os:List Nat),-1≤z∧z<xs.length∧ii=.int .i64 z∧rr=.int .u64 (r:Int)∧Hid (tK xs os d (z+1).toNat r)∧Hid (Blk4 wr w.heap.size (List.replicate (z+1).toNat 0++os))∧Hid (Below w.heap.size w wr)) (fun _ ii _=>(intOf ii+1).toNat)
 case atStart=>exact⟨(xs.length:Int)-1,0,[],by omega,by omega,rfl,rfl,by rw[show((xs.length:Int)-1+1).toNat=xs.length by omega];exact tK.start xs HD.o,by rw[show((xs.length:Int)-1+1).toNat=xs.length by omega,List.append_nil];exact u6,HN0⟩
 case round =>
  obtain⟨z,r,os,hz1',hz8,rfl,rfl,hI,hB,hn⟩:=hrel;by_cases hz:0≤z
  · obtain⟨j,rfl⟩:=Int.eq_ofNat_of_zero_le hz
    have hj:j<xs.length:=by omega
    have hI':=hI.o;have hB':=hB.o;rw[show((j:Int)+1).toNat=j+1 by omega]at hI' hB';obtain⟨b1,o1,rfl,hb1,hc1⟩:=HR.o j hj;have hcx:=(hn.o.cell (p:=⟨b1,o1+j,none⟩) hb1).trans hc1;have hxw:=HX.o _ (aV hj);have hst:=hI'.step hj HX.o;have hr:=hI'.2.2.1;rw[iV,List.append_assoc]at hB';have e1:(List.replicate j 0++([0]++os)).getD j 0=0:=by simp[List.getD]
    have hcell:=hB'.cell (i:=j) (by simp);have hfree:=hB'.free j;have hset:=hB'.set j ((r*BB+xs.getD j 0) / d);have e2:(List.replicate j 0++([0]++os)).set j ((r*BB+xs.getD j 0) / d)=List.replicate j 0++((r*BB+xs.getD j 0) / d :: os):=by simp
    rw[e1]at hcell;rw[e2]at hset;have hqB:=oF hr hxw;have hbel:=hn.o.setCell (p:=⟨w.heap.size,j,none⟩) (Nat.le_refl _) (.int .u32 (((r*BB+xs.getD j 0) / d:Nat):Int));obtain ⟨HS,HI,HBL⟩:=ak hset hst hbel;clear hI' hB' hst e1 e2 hset hbel hI hB hn hb1 hc1;generalize xs.getD j 0=x at *;rw[aG]at hxw;have hr2:r<999999999:=by omega
    obtain⟨q,hq⟩:∃ q,q=(r*BB+x) / d:=⟨_,rfl⟩;obtain⟨m,hm⟩:∃ m,m=(r*BB+x)%d:=⟨_,rfl⟩;rw[← hq]at hqB HS HI HBL;rw[← hm]at HI;have hqI:((r:Int)*1000000000+(x:Int)) / (d:Int)=(q:Int):=by rw[hq,aG];rfl
    have hmI:((r:Int)*1000000000+(x:Int))%(d:Int)=(m:Int):=by rw[hm,aG];rfl
    have k1:(x:Int)≤999999999:=by omega
    have k2:(r:Int)≤999999999:=by omega
    have k3:(q:Int)≤999999999:=by rw[aG]at hqB;omega
    clear hq hm hxw hr hr2 hqB;go_wp2;go_roundw
    case rel=>exact⟨(j:Int)-1,m,q :: os,by omega,by omega,rfl,df hmI,by rw[show((j:Int)-1+1).toNat=j by omega];exact HI,by rw[show((j:Int)-1+1).toNat=j by omega];exact HS,HBL⟩
    case measure=>simp[intOf]
  · have hz0':(z+1).toNat=0:=by omega
    have hI':=hI.o;have hB':=hB.o;rw[hz0']at hI' hB';obtain⟨g1,g2,g3,g4⟩:=hI';rw[List.drop_zero,HV.o]at g4;rw[List.replicate_zero,List.nil_append]at hB';have hown:=Blk4.own hB' (Nat.le_refl _) (by unfold maxLen;omega);have hq:ai os=a / d:=by rw[g4,Nat.add_comm,Nat.add_mul_div_right _ _ HD.o,Nat.div_eq_of_lt g3,Nat.zero_add]
    have hm:r=a%d:=by rw[g4,Nat.add_comm,Nat.add_mul_mod_self_right,Nat.mod_eq_of_lt g3]
    have htr:=ig 89 w.heap.size _ os g2 wr hown;rw[g1,Nat.sub_zero,hq]at htr;obtain ⟨HTR,HM⟩:=aD htr hm;have k2:(r:Int)≤999999999:=by omega
    clear g1 g2 g3 g4 hB' hown hq htr hz0' hm;go_wp2_with fail
    refine HTR.o.mono ?_;rintro e w2 ⟨v',rfl,hown,rfl⟩;go_wp2;go_ret2
    exact⟨v',mX (by rw[HM.o]),hown,hn.o⟩
open Go.RowKit
abbrev CL (f : FuncId) (args : Array Value) (v : Value) : Prop := ∀ W, La W → Calls Tryz.prog f args W fun e w' => e = .returned v ∧ Below W.heap.size W w'
end Go.Proofs.YtikihamjpenboaaGreatDoor
namespace Go.Proofs.YtikihamjpenboaaGreatDoor
open Go.RowKit Go.Gb
theorem index_hit (c:UInt8)(a b:List UInt8)(h:c∉a):Lib.index (a++c :: b) [c]=a.length:=by
 refine Lib.index_first (by simp) ?_ ?_
 · simp[Lib.occAt,List.isPrefixOf]
 · intro j hj
   unfold Lib.occAt
   rw[List.drop_append_of_le_length (by omega)]
   cases hd:a.drop j with
   | nil=>exact absurd (List.drop_eq_nil_iff.1 hd) (by omega)
   | cons x t =>
     have hx:x∈a:=List.mem_of_mem_drop (hd▸List.mem_cons_self);have h1:¬ c=x:=by rintro rfl;exact h hx
     simp[List.isPrefixOf,h1]
theorem qG (c:UInt8):∀ l:List UInt8,c∉l→Lib.index l [c] = -1
 | [],_=>rfl
 | x :: l,h=>by
   have h1:¬ c=x:=by rintro rfl;exact h List.mem_cons_self
   have h2:=qG c l (fun hm=>h (List.mem_cons_of_mem _ hm));unfold Lib.index
   rw[h2];simp[List.isPrefixOf,h1]
theorem z1T (c:UInt8)(a b:List UInt8)(h:c∉a):Lib.cut (a++c :: b) [c]=(a,b,true):=by
 unfold Lib.cut
 rw[index_hit c a b h,if_pos (by omega)];simp
theorem yE (c:UInt8)(l:List UInt8)(h:c∉l):Lib.cut l [c]=(l,[],false):=by
 unfold Lib.cut
 rw[qG c l h];rfl
theorem oH (c:UInt8)(l:List UInt8):(c∉l∧Lib.cut l [c]=(l,[],false))∨∃ a b,c∉a∧l=a++c :: b∧Lib.cut l [c]=(a,b,true):=by
 by_cases h:c∈l
 · obtain⟨a,b,e,hn⟩:=List.eq_append_cons_of_mem h
   exact Or.inr ⟨a,b,hn,e,by rw[e];exact z1T c a b hn⟩
 · exact Or.inl ⟨h,yE c l h⟩
theorem z1Q (c:UInt8)(hc:isD c=false)(n:Nat):c∉Lib.decDigits n:=by
 intro h;have:=List.all_eq_true.1 (jq n) c h;rw[hc]at this;cases this
theorem z2y (c:UInt8)(hc:isD c=false)(h45:c≠45)(z:Int):c∉(Sz z).data.toList:=by
 rcases bT z with⟨n,hn,rfl⟩|rfl|⟨n,hn,rfl⟩
 · rw[jA hn]
   intro h;rcases List.mem_cons.1 h with h|h
   · exact h45 h
   · exact z1Q c hc n h
 · rw[show Sz 0=Sn 0 from dB 0,bQ];exact z1Q c hc 0
 · rw[dB,bQ];exact z1Q c hc n
def Sq (q:Rat):ByteArray:=if q.den=1 then Sz q.num else ⟨((Sz q.num).data.toList++47 :: Lib.decDigits q.den).toArray⟩
theorem jB {q:Rat}(h:q.den=1):Sq q=Sz q.num:=by unfold Sq;rw[if_pos h]
theorem qZ {q:Rat}(h:q.den≠1):Sq q=⟨((Sz q.num).data.toList++47 :: Lib.decDigits q.den).toArray⟩:=by unfold Sq;rw[if_neg h]
theorem iD {q:Rat}(h:q.den≠1):(Sq q).data.toList=(Sz q.num).data.toList++47 :: Lib.decDigits q.den:=by rw[qZ h]
theorem qY (z:Int):Sq (Rat.ofInt z)=Sz z:=jB rfl
theorem yF {q:Rat}(h:q.den≠1):Lib.cut (Sq q).data.toList [47]=((Sz q.num).data.toList,Lib.decDigits q.den,true):=by
 rw[iD h];exact z1T 47 _ _ (z2y 47 (by decide) (by decide) _)
theorem z1S (z:Int):Lib.cut (Sz z).data.toList [47]=((Sz z).data.toList,[],false):=yE 47 _ (z2y 47 (by decide) (by decide) _)
def vldP (n d:List UInt8):Bool:=vldZ n&&vldZ d && !(d==[49])&&decide (1≤zval d)&&(Nat.gcd (zval n).natAbs (zval d).natAbs==1)
def vldQ (l:List UInt8):Bool:=if (Lib.cut l [47]).2.2 then vldP (Lib.cut l [47]).1 (Lib.cut l [47]).2.1 else vldZ l
def qval (l:List UInt8):Rat:=if (Lib.cut l [47]).2.2 then mkRat (zval (Lib.cut l [47]).1) (zval (Lib.cut l [47]).2.1).toNat else Rat.ofInt (zval l)
theorem z4g {l:List UInt8}(h:vldZ l=true):(Sz (zval l)).data.toList=l:=by
 have h1:=z0i (a:=⟨l.toArray⟩) (by simpa using h);have h2:=congrArg (fun b:ByteArray=>b.data.toList) h1;simpa using h2.symm
theorem z3I {l:List UInt8}(h:vldZ l=true)(h1:1≤zval l):l=Lib.decDigits (zval l).toNat:=by
 have h2:=z4g h;obtain⟨n,hn⟩:∃ n:Nat,zval l=n:=⟨(zval l).toNat,by omega⟩;rw[hn,dB,bQ]at h2;rw[hn,Int.toNat_natCast,h2]
theorem zH (z:Int)(n:Nat)(hn:n≠0)(hg:Nat.gcd z.natAbs n=1):(mkRat z n).num=z∧(mkRat z n).den=n:=by
 have h:=jW z n hn;rw[hg]at h;simpa using h
theorem z4I {a:ByteArray}(h:vldQ a.data.toList=true):a=Sq (qval a.data.toList):=by
 cases a with
 | mk d =>
   simp only at h ⊢;obtain⟨l,rfl⟩:∃ l:List UInt8,d=l.toArray:=⟨d.toList,rfl⟩;simp only at h ⊢;rcases oH 47 l with⟨_,e⟩|⟨x,y,_,el,e⟩
   · unfold vldQ at h
     unfold qval
     rw[e]at h ⊢;simp only[Bool.false_eq_true,if_false]at h ⊢;rw[qY];have h2:=z0i (a:=⟨l.toArray⟩) (by simpa using h);simpa using h2
   · unfold vldQ at h
     unfold qval
     rw[e]at h ⊢;simp only[if_true]at h ⊢;unfold vldP at h
     simp only[Bool.and_eq_true,decide_eq_true_eq,Bool.not_eq_true',beq_iff_eq]at h;obtain⟨⟨⟨⟨h1,h2⟩,h3⟩,h4⟩,h5⟩:=h;have hy:=z3I h2 h4;have hx:=z4g h1;obtain⟨m,hm⟩:∃ m:Nat,zval y=m:=⟨(zval y).toNat,by omega⟩;rw[hm]at h4 h5 hy ⊢;rw[Int.toNat_natCast]at hy ⊢;rw[Int.natAbs_natCast]at h5;obtain⟨p1,p2⟩:=zH (zval x) m (by omega) h5
     have hm1:m≠1:=by
        intro h6;subst h6;rw[Lib.decDigits_one (by decide)]at hy;rw[hy]at h3;simp at h3
     rw[qZ (by rw[p2];exact hm1),p1,p2,hx,← hy,el]
theorem z4i (q:Rat):qval (Sq q).data.toList=q:=by
 unfold qval
 by_cases h:q.den=1
 · rw[jB h,z1S]
   simp only[Bool.false_eq_true,if_false];rw[xJ];exact Rat.ext rfl h.symm
 · rw[yF h]
   simp only[if_true];rw[xJ,nD,Int.toNat_natCast];exact Rat.mkRat_self q
theorem z0m (q:Rat):(Sq q).toList=(Sq q).data.toList:=toList_data _
theorem nU {x y:Rat}(h:x≠y):((Sq x).toList==(Sq y).toList)=false:=by
 rw[beq_eq_false_iff_ne,z0m,z0m];intro h2;apply h
 rw[← z4i x,← z4i y,h2]
def SmQ (k:Nat) (q:Rat):Prop:=Sm k q.num.natAbs∧Sm k q.den
def FitQ (q:Rat):Prop:=SmQ 900 q
theorem SmQ.mono {k l:Nat}{q:Rat}(h:SmQ k q)(hkl:k≤l):SmQ l q:=⟨h.1.mono hkl,h.2.mono hkl⟩
theorem SmQ.fit {k:Nat}{q:Rat}(h:SmQ k q)(hk:k≤900):FitQ q:=SmQ.mono h hk
theorem SmQ.neg {k:Nat}{q:Rat}(h:SmQ k q):SmQ k (-q):=by
 obtain⟨e1,e2⟩:=z1h q;unfold SmQ
 rw[e1,e2,Int.natAbs_neg];exact h
theorem z3k (z:Int)(n:Nat)(hn:n≠0):(mkRat z n).num.natAbs≤z.natAbs∧(mkRat z n).den≤n:=by
 obtain⟨e1,e2⟩:=jW z n hn;rw[e1,e2];exact⟨Int.natAbs_ediv_le_natAbs _ _,Nat.div_le_self _ _⟩
theorem z4l {k:Nat}{z:Int}{n:Nat}(hn:n≠0)(h1:Sm k z.natAbs)(h2:Sm k n):SmQ k (mkRat z n):=by
 obtain⟨e1,e2⟩:=z3k z n hn;exact⟨h1.le e1,h2.le e2⟩
theorem j6 (x y:Rat):x.den*y.den≠0:=Nat.mul_ne_zero x.den_nz y.den_nz
theorem SmQ.add {k l:Nat}{x y:Rat}(hx:SmQ k x)(hy:SmQ l y):SmQ (k+l+1) (x+y):=by
 rw[jQ];refine z4l (j6 x y) ?_ ((hx.2.mul hy.2).mono (by omega));refine Sm.le ?_ (Int.natAbs_add_le _ _);rw[Int.natAbs_mul,Int.natAbs_mul,Int.natAbs_natCast,Int.natAbs_natCast];exact Sm.add (hx.1.mul hy.2) ((hy.1.mul hx.2).mono (by omega))
theorem SmQ.sub {k l:Nat}{x y:Rat}(hx:SmQ k x)(hy:SmQ l y):SmQ (k+l+1) (x-y):=by
 rw[Rat.sub_eq_add_neg];exact hx.add hy.neg
theorem SmQ.mul {k l:Nat}{x y:Rat}(hx:SmQ k x)(hy:SmQ l y):SmQ (k+l) (x*y):=by
 rw[jH];refine z4l (j6 x y) ?_ (hx.2.mul hy.2);rw[Int.natAbs_mul];exact hx.1.mul hy.1
theorem SmQ.inv {k:Nat}{x:Rat}(hx:SmQ k x)(h0:x≠0):SmQ k x⁻¹:=by
 have hn:x.num≠0:=fun h=>h0 (Rat.num_eq_zero.1 h);rcases Int.lt_or_gt_of_ne hn with h|h
 · obtain⟨e1,e2⟩:=lu h
   unfold SmQ
   rw[e1,Int.natAbs_neg,Int.natAbs_natCast,show(x⁻¹).den=x.num.natAbs by omega];exact⟨hx.2,hx.1⟩
 · obtain⟨e1,e2⟩:=inv_pos h
   unfold SmQ
   rw[e1,Int.natAbs_natCast,show(x⁻¹).den=x.num.natAbs by omega];exact⟨hx.2,hx.1⟩
theorem SmQ.div {k l:Nat}{x y:Rat}(hx:SmQ k x)(hy:SmQ l y)(h0:y≠0):SmQ (k+l) (x / y):=by
 rw[Rat.div_def];exact hx.mul (hy.inv h0)
theorem jD {z:Int}{k:Nat}(h:(Sz z).size≤k):Sm k z.natAbs:=by
 rcases bT z with⟨n,hn,rfl⟩|rfl|⟨n,hn,rfl⟩
 · rw[Int.natAbs_neg,Int.natAbs_natCast]
   rw[jA hn]at h
   have h1:=Sm.of (a:=Sn n) (k:=k) (eT n) (by
    have h2:(Sn n).size=(Lib.decDigits n).length:=by rw[← aC,bQ]
    have h3:(⟨(45 :: Lib.decDigits n).toArray⟩:ByteArray).size=(Lib.decDigits n).length+1:=by simp[ByteArray.size]
    omega)
   rwa [bR]at h1
 · rw[show Sz 0=Sn 0 from dB 0]at h
   have h1:=Sm.of (a:=Sn 0) (k:=k) (eT 0) h;rwa [bR]at h1
 · rw[Int.natAbs_natCast]
   rw[dB]at h;have h1:=Sm.of (a:=Sn n) (k:=k) (eT n) h;rwa [bR]at h1
theorem z0r {q:Rat}{k:Nat}(h:(Sq q).size≤k)(hk:0<k):SmQ k q:=by
 by_cases h1:q.den=1
 · rw[jB h1]at h
   refine⟨jD h,?_⟩;rw[h1];exact Nat.one_lt_pow (by omega) (by decide)
 · have h2:(Sq q).size=(Sz q.num).size+1+(Sn q.den).size:=by
    rw[← aC,iD h1,← aC,← aC,bQ];simp;omega
   refine⟨jD (by omega),?_⟩;have h3:=Sm.of (a:=Sn q.den) (k:=k) (eT _) (by omega);rwa [bR]at h3
theorem FitQ.num {q:Rat}(h:FitQ q):FitZ q.num:=by unfold FitZ Fit;exact Sm.mono (k:=900) h.1 (by decide)
theorem FitQ.den {q:Rat}(h:FitQ q):Fit q.den:=by unfold Fit;exact Sm.mono (k:=900) h.2 (by decide)
theorem kF {z:Int}{k:Nat}(h:Sm k z.natAbs)(hk:0<k):(Sz z).size≤k+1:=by
 rcases bT z with⟨n,hn,rfl⟩|rfl|⟨n,hn,rfl⟩
 · rw[Int.natAbs_neg,Int.natAbs_natCast]at h
   have h1:=fT h hk;have h2:(Sn n).size=(Lib.decDigits n).length:=by rw[← aC,bQ]
   have h3:(Sz (-(n:Int))).size=(Lib.decDigits n).length+1:=by rw[jA hn];simp[ByteArray.size]
   omega
 · have h1:=fT h hk
   rw[show Sz 0=Sn 0 from dB 0];simp at h1
   omega
 · rw[Int.natAbs_natCast]at h
   have h1:=fT h hk;rw[dB];omega
theorem z0l {q:Rat}{k:Nat}(h:SmQ k q)(hk:0<k):(Sq q).size≤k+1+1+k:=by
 have h1:=kF h.1 hk;have h2:=fT h.2 hk;by_cases h3:q.den=1
 · rw[jB h3];omega
 · have h4:(Sq q).size=(Sz q.num).size+1+(Sn q.den).size:=by
    rw[← aC,iD h3,← aC,← aC,bQ];simp;omega
   omega
theorem qC {n:Nat}(h:n<10^18):Lib.parseIntB 64 (Lib.decDigits n)=.ok (n:Int):=by
 have hl:(Lib.decDigits n).length≤18:=oG 18 n h (by decide);have hp:=nY (Lib.decDigits n) (nR n) (by omega);rw[gN]at hp;obtain⟨c,t,hd,hc⟩:=jZ (n:=n);have hD:isD c=true:=List.all_eq_true.1 (jq n) c (by rw[hd];exact List.mem_cons_self);have hD':=(fJ c).1 hD;rw[hd]at hp ⊢;unfold Lib.parseIntB
 have h1:¬ c.toNat=43:=by omega
 have h2:¬ c.toNat=45:=by omega
 simp only[h1,h2,or_self,if_false,hp]
 have h3:¬ (2^(64-1)≤n):=by
  have:(10:Nat)^18<2^(64-1):=by decide
  omega
 simp[h3]
theorem zi {n:Nat}(h:n<10^18):Lib.parseIntB 64 (45 :: Lib.decDigits n)=.ok (-(n:Int)):=by
 have hl:(Lib.decDigits n).length≤18:=oG 18 n h (by decide);have hp:=nY (Lib.decDigits n) (nR n) (by omega);rw[gN]at hp;unfold Lib.parseIntB
 have e:(45:UInt8).toNat=45:=rfl;simp only[e,or_true,if_true,hp]
 have h3:¬ (2^(64-1)<n):=by
  have:(10:Nat)^18<2^(64-1):=by decide
  omega
 simp[h3]
theorem z2T {z:Int}(h:(Sz z).size≤18):Lib.parseIntB 64 (Sz z).data.toList=.ok z:=by
 have hs:=jD h;rcases bT z with⟨n,hn,rfl⟩|rfl|⟨n,hn,rfl⟩
 · rw[Int.natAbs_neg,Int.natAbs_natCast]at hs
   rw[jA hn];exact zi hs
 · rw[show Sz 0=Sn 0 from dB 0,bQ]
   exact qC (by decide)
 · rw[Int.natAbs_natCast]at hs
   rw[dB,bQ];exact qC hs
theorem z1s (z:Int):(⟨(Lib.itoa z).toArray⟩:ByteArray)=Sz z:=by
 unfold Lib.itoa Sz
 split
 · rfl
 · unfold Sn
   rw[show z.toNat=z.natAbs by omega]
set_option maxRecDepth 100000
set_option maxHeartbeats 20000000
open Go.Lib (hid)
theorem z1L (B g F S P Q a b c d f s:Nat)(n:Bool)(hm:Made a b c d true F S f s)(hf:Fac a b c d)(hd9:d≤1000000000)(hlF:(ae F).length≤80000)(hlS:(ae S).length≤80000)(hlP:(ae P).length≤80000)(hlQ:(ae Q).length≤80000)(w:World)(h:EuSt B w g F S P Q n)(hB:B≤w.heap.size) :
 Calls Tryz.prog 213 #[.pointer (some ⟨g,0,none⟩),.agg #[.int .u64 (a:Int),.int .u64 (b:Int),.int .u64 (c:Int),.int .u64 (d:Int),.bool true]] w fun e w'=>e=.returned (.tuple #[])∧Hid (EuSt B w' g f s (a*P+b*Q) (c*P+d*Q) (n != true))∧Below B w w':=by
 obtain⟨ha9,hb9,hc9⟩:=hf.le hd9 (by omega);obtain⟨vf,vs,vp,vq,hE,hBg,h4⟩:=h;obtain⟨e1,e2⟩:=hm.odd;obtain ⟨HE1,HE2,HBg,HB⟩:=aM e1 e2 hBg hB;have hw0:=(Below.refl w.heap.size w).alloc (Nat.le_refl _) (.cells #[.int .u64 (a:Int),.int .u64 (b:Int),.int .u64 (c:Int),.int .u64 (d:Int),.bool true] 205);obtain ⟨HEb,H4,HS,HW⟩:=aM (hE.below hw0) (h4.below hw0) (kZ w a b c d true) (hw0.mono hB);have HZ:=hid (show B≤(w.alloc (.cells #[.int .u64 (a:Int),.int .u64 (b:Int),.int .u64 (c:Int),.int .u64 (d:Int),.bool true] 205)).heap.size by rw[World.size_alloc];omega);clear hm hf e1 e2 hBg hB hw0 hE h4;obtain⟨s0,s1,s2,s3,s4⟩:=bA HS.o;obtain⟨k,hk⟩:∃ k,k=w.heap.size:=⟨_,rfl⟩;rw[← hk]at HS s0 s1 s2 s3 s4;have HK:=hid hk;go_enter func213,ntmps213
 go_upto_region 1 with fail
 rw[← hk];clear hk;generalize w.alloc (.cells #[.int .u64 (a:Int),.int .u64 (b:Int),.int .u64 (c:Int),.int .u64 (d:Int),.bool true] 205)=w0 at *;go_wp2;go_quiet (fail)
 have HEb:=hid (show Eb (w0.drewN nq) g vf vs vp vq n from HEb.o);have H4:=hid (show St4 B (w0.drewN nq) vf vs vp vq F S P Q from H4.o.kp ((Kp.refl (fun _=>False) w0).drewN nq) (fun _ _ h=>h));have HS:=hid (show Sb (w0.drewN nq) k a b c d true from HS.o);have HW:=hid (show Below B w (w0.drewN nq) from below_drewN' HW.o nq);have HZ:=hid (show B≤(w0.drewN nq).heap.size from HZ.o);clear s0 s1 s2 s3 s4;generalize w0.drewN nq=w1 at *
 have HBl:=hid (jN B vp vq (ae P) (ae Q) a b c d (a*P+b*Q) (c*P+d*Q) w1.drew (by omega) (by omega) (by omega) (by omega) (by omega) (by omega) (by omega) (by omega)
  (aQ _) (aQ _) (by omega) (by omega) (by rw[ax,ax,Int.natCast_add,Int.natCast_mul,Int.natCast_mul]) (by rw[ax,ax,Int.natCast_add,Int.natCast_mul,Int.natCast_mul]) H4.o.p H4.o.q H4.o.pq HZ.o)
 obtain⟨c0,c1,c2,c3,c4⟩:=HEb.o.cells;go_upto_region 2 with fail
 go_cut [20] (fun _ wx=>∃ vp vq:Value,Hid (Eb wx g vf vs vp vq n)∧Hid (St4 B wx vf vs vp vq F S (a*P+b*Q) (c*P+d*Q))∧Hid (Sb wx k a b c d true)∧Hid (Below B w wx))
 case first =>
  go_region_with (go_at_call 232;go_must (refine HBl.o.mono ?_;rintro e w2 ⟨u1,u2,rfl,o1,o2,ap,n1,n2,hk⟩;obtain⟨r1,r2,r3,r4⟩:=H4.o.blendPQ HEb.o HS.o HZ.o o1 o2 ap n1 n2 (Kp.undrew hk);obtain⟨x1,y1,rfl⟩:=aT o1.rd;obtain⟨x2,y2,rfl⟩:=aT o2.rd;have R1:=hid r1;have R2:=hid r2;have R3:=hid r3;have R4:=hid r4;obtain⟨d0,d1,d2,d3,d4⟩:=r2.cells;have f2:=r2.free 2;have f3:=r2.free 3;clear o1 o2 ap n1 n2 hk r1 r2 r3 r4))
  all_goals
   have K:=(ik (w:=w2) g 2 (.slice x1 (ae (a*P+b*Q)).length y1)).trans (ik g 3 (.slice x2 (ae (c*P+d*Q)).length y2)) (fun _ _ h=>h);have E':=hid (R2.o.set23 (.slice x1 (ae (a*P+b*Q)).length y1) (.slice x2 (ae (c*P+d*Q)).length y2));have L':=hid (R1.o.stored R2.o K);have S':=hid (yT R3.o K (fun e=>jK R2.o R3.o e.symm));have W':=hid (HW.o.trans (R4.o.trans (K.below (Nat.le_trans HZ.o R4.o.size) (fun _ e=>e▸HBg.o))));clear d0 d1 d2 d3 d4 f2 f3 K;go_wp2_with fail
   go_meet
   exact⟨_,_,E',L',S',W'⟩
 case rest =>
  clear HEb H4 HS HW HZ c0 c1 c2 c3 c4 HBl;obtain⟨vp,vq,HEb,H4,HS,HW⟩:=hcut;have HZ:=hid (Nat.le_trans HB.o HW.o.size)
  have HBl:=hid (jN B vf vs (ae F) (ae S) (-(a:Int)) ((b:Int)) ((c:Int)) (-(d:Int)) f s wc.drew (by omega) (by omega) (by omega) (by omega) (by omega) (by omega) (by omega) (by omega)
   (aQ _) (aQ _) (by omega) (by omega) (by rw[ax,ax];exact HE1.o) (by rw[ax,ax];exact HE2.o) H4.o.f H4.o.s H4.o.fs HZ.o)
  obtain⟨c0,c1,c2,c3,c4⟩:=HEb.o.cells;obtain⟨s0,s1,s2,s3,s4⟩:=bA HS.o;have v1:IntKind.i64.wrap (-(a:Int)) = -(a:Int):=IntWalk.i64_in _ (by omega);have v2:IntKind.i64.wrap (-(b:Int)) = -(b:Int):=IntWalk.i64_in _ (by omega);have v3:IntKind.i64.wrap (-(c:Int)) = -(c:Int):=IntWalk.i64_in _ (by omega);have v4:IntKind.i64.wrap (-(d:Int)) = -(d:Int):=IntWalk.i64_in _ (by omega);have v5:IntKind.i64.wrap (b:Int)=(b:Int):=IntWalk.i64_in _ (by omega);have v6:IntKind.i64.wrap (c:Int)=(c:Int):=IntWalk.i64_in _ (by omega);go_upto_region 5 with fail
  go_cut [52] (fun _ wx=>∃ vf vs:Value,Hid (Eb wx g vf vs vp vq n)∧Hid (St4 B wx vf vs vp vq f s (a*P+b*Q) (c*P+d*Q))∧Hid (Sb wx k a b c d true)∧Hid (Below B w wx))
  case first =>
   go_region_with (go_at_call 232;go_must (refine HBl.o.mono ?_;rintro e w2 ⟨u1,u2,rfl,o1,o2,ap,n1,n2,hk⟩;obtain⟨r1,r2,r3,r4⟩:=H4.o.blendFS HEb.o HS.o HZ.o o1 o2 ap n1 n2 (Kp.undrew hk);obtain⟨x1,y1,rfl⟩:=aT o1.rd;obtain⟨x2,y2,rfl⟩:=aT o2.rd;have R1:=hid r1;have R2:=hid r2;have R3:=hid r3;have R4:=hid r4;obtain⟨d0,d1,d2,d3,d4⟩:=r2.cells;have f0:=r2.free 0;have f1:=r2.free 1;clear o1 o2 ap n1 n2 hk r1 r2 r3 r4))
   all_goals
        have K:=(ik (w:=w2) g 0 (.slice x1 (ae f).length y1)).trans (ik g 1 (.slice x2 (ae s).length y2)) (fun _ _ h=>h);obtain ⟨E',L'⟩:=aD (R2.o.set01 (.slice x1 (ae f).length y1) (.slice x2 (ae s).length y2)) (R1.o.stored R2.o K);have S':=hid (yT R3.o K (fun e=>jK R2.o R3.o e.symm));have W':=hid (HW.o.trans (R4.o.trans (K.below (Nat.le_trans HZ.o R4.o.size) (fun _ e=>e▸HBg.o))));clear d0 d1 d2 d3 d4 f0 f1 K;go_wp2_with fail
        go_meet
        exact⟨_,_,E',L',S',W'⟩
  case rest =>
   clear HEb H4 HS HW HZ c0 c1 c2 c3 c4 HBl s0 s1 s2 s3 s4 v1 v2 v3 v4 v5 v6;obtain⟨vf,vs,HEb,H4,HS,HW⟩:=hcut;obtain⟨c0,c1,c2,c3,c4⟩:=HEb.o.cells;obtain⟨s0,s1,s2,s3,s4⟩:=bA HS.o;have f4:=HEb.o.free 4;go_wp2;go_region
   all_goals
        clear c0 c1 c2 c3 c4 s0 s1 s2 s3 s4 f4;go_wp2;go_end0
        have K:Kp (fun k=>k=g) wc (wc.setCell ⟨g,4,none⟩ (.bool (!n))).drew:=(ik g 4 (.bool (!n))).drew;refine⟨rfl,⟨vf,vs,vp,vq,?_,HBg.o,H4.o.stored HEb.o K⟩,HW.o.trans (K.below (Nat.le_trans HB.o HW.o.size) (fun _ e=>e▸HBg.o))⟩;have E:=HEb.o.set4 (!n);have e:(n != true)=(!n):=by cases n<;>rfl
        rw[e];exact E
open Go.ChangeShapes Go.WideShapes Go.ChangeAt Go.WideMaps Go.WideElems Go.RowKit
theorem own:ownKnob Tryz.prog.godebug=none:=by kernel_rfl
theorem gTab:Tryz.prog.globalNamed "internal/strconv.uint64pow10" = some 3:=by kernel_rfl
theorem z3s:(Tryz.prog.globals[3]?).map (·.type)=some 222:=by kernel_rfl
theorem z3P:Tryz.prog.cellsOf 222=20:=by kernel_rfl
theorem z3O:Tryz.prog.cellsOf 95=1:=by kernel_rfl
def z6u:List (String × DataW Unit):=[("math/bits.deBruijn32tab",Rows.laid_math_bits_deBruijn32tab),("math/bits.deBruijn64tab",Rows.laid_math_bits_deBruijn64tab),("internal/strconv.uint64pow10",Rows.laid_internal_strconv_uint64pow10),("strconv.ErrRange",Rows.laid_strconv_ErrRange),("strconv.ErrSyntax",Rows.laid_strconv_ErrSyntax)]
theorem z5l:Tryz.prog.globalNamed "garboard/integer.zero" = some 1:=by kernel_rfl
theorem z1y:(Tryz.prog.globals[1]?).map (·.type)=some 142:=by kernel_rfl
def z6e:List (String × DataW Unit):=[("math/bits.deBruijn32tab",Rows.laid_math_bits_deBruijn32tab),("math/bits.deBruijn64tab",Rows.laid_math_bits_deBruijn64tab),("internal/strconv.uint64pow10",Rows.laid_internal_strconv_uint64pow10),("strconv.ErrRange",Rows.laid_strconv_ErrRange),("strconv.ErrSyntax",Rows.laid_strconv_ErrSyntax),("garboard/integer.zero",Rows.laid_garboard_integer_zero)]
