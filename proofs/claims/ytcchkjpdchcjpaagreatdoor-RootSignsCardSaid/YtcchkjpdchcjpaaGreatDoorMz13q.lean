/- texts -/
import Derived.Test.YtcchkjpdchcjpaaGreatDoorMz11q
import Derived.Test.YtcchkjpdchcjpaaGreatDoorMz12q
import Derived.Deep.RegionHeld3
open Go.Proofs.Tryz
namespace Go.Gb
def TI (x y os:List Nat) (i:Nat):Prop:=os.length=x.length+y.length∧(∀ w∈os,w<BB)∧ah os=ah (x.take i)*ah y
def TR (x y os:List Nat) (i k c:Nat):Prop:=os.length=x.length+y.length∧(∀ w∈os,w<BB)∧c<BB∧os.getD (i+y.length) 0=0∧ah os+BB^(i+k)*c=ah (x.take i)*ah y+BB^i*(x.getD i 0*ah (y.take k))
theorem z2U {os:List Nat}{m v:Nat}(h:∀ w∈os,w<BB)(hv:v<BB):∀ w∈os.set m v,w<BB:=by
 intro w hw;rcases List.mem_or_eq_of_mem_set hw with hw|hw
 · exact h w hw
 · rw[hw];exact hv
theorem z0C {os:List Nat}{m:Nat}(h:ah os<BB^m):os.getD m 0=0:=by
 by_cases hm:m<os.length
 · have h1:=dB os m (by omega)
   rw[gI hm]at h1;rcases Nat.eq_zero_or_pos (os.getD m 0) with h2|h2
   · exact h2
   · have:BB^m*1≤BB^m*(os.getD m 0+BB*ah (os.drop (m+1))):=Nat.mul_le_mul_left _ (by omega)
     omega
 · exact jZ (by omega)
theorem TI.start (x y:List Nat):TI x y (List.replicate (x.length+y.length) 0) 0:=by
 refine⟨by simp,fun w hw=>by rw[(List.mem_replicate.1 hw).2];exact bK,?_⟩;have:=eT [] (x.length+y.length);simpa [ah] using this
theorem TI.row {x y os:List Nat}{i:Nat}(h:TI x y os i)(hi:i<x.length)(hx:∀ w∈x,w<BB)(hy:∀ w∈y,w<BB):TR x y os i 0 0:=by
 obtain⟨h1,h2,h3⟩:=h;refine⟨h1,h2,bK,z0C ?_,by rw[h3,Nat.mul_zero,Nat.add_zero,List.take_zero];simp[ah]⟩;have l1:=bR (n:=i) (xs:=x.take i) (fun w hw=>hx w (List.mem_of_mem_take hw)) (by simp;omega);have l2:=eD y hy;rw[h3,Nat.pow_add];exact Nat.mul_lt_mul_of_lt_of_le l1 (Nat.le_of_lt l2) (Nat.pow_pos bK)
theorem TR.bound {o a b c:Nat}(ho:o<BB)(ha:a<BB)(hb:b<BB)(hc:c<BB):a*b≤999999998000000001∧o+a*b+c<BB*BB:=by
 have h:=qf ha hb;refine⟨h,?_⟩;rw[aG]at *;omega
theorem TR.step {x y os:List Nat}{i k c:Nat}(h:TR x y os i k c)(hi:i<x.length)(hk:k<y.length)(hx:∀ w∈x,w<BB)(hy:∀ w∈y,w<BB) :
 TR x y (os.set (i+k) ((os.getD (i+k) 0+x.getD i 0*y.getD k 0+c)%BB)) i (k+1) ((os.getD (i+k) 0+x.getD i 0*y.getD k 0+c) / BB):=by
 obtain⟨h1,h2,h3,h4,h5⟩:=h;have hb:=(TR.bound (h2 _ (aX (i:=i+k) (by omega))) (hx _ (aX hi)) (hy _ (aX hk)) h3).2;have hm:=Nat.div_add_mod (os.getD (i+k) 0+x.getD i 0*y.getD k 0+c) BB;have hs:=q9 (xs:=os) (i:=i+k) (v:=(os.getD (i+k) 0+x.getD i 0*y.getD k 0+c)%BB) (by omega);refine⟨by simp[h1],z2U h2 (Nat.mod_lt _ bK),(Nat.div_lt_iff_lt_mul bK).2 hb,?_,?_⟩
 · rw[kK,if_neg (by omega)];exact h4
 · rw[aM y k,Nat.mul_add (x.getD i 0),Nat.mul_add (BB^i)]
   rw[show BB^i*(x.getD i 0*(BB^k*y.getD k 0))=BB^(i+k)*(x.getD i 0*y.getD k 0) by rw[Nat.pow_add,Nat.mul_left_comm (x.getD i 0),Nat.mul_assoc]];rw[← Nat.add_assoc i k 1,Nat.pow_succ,Nat.mul_assoc];generalize (os.getD (i+k) 0+x.getD i 0*y.getD k 0+c)%BB=lo at *;generalize (os.getD (i+k) 0+x.getD i 0*y.getD k 0+c) / BB=q at *;have e:=congrArg (BB^(i+k) * ·) hm;simp only[Nat.mul_add]at e;omega
theorem TR.next {x y os:List Nat}{i c:Nat}(h:TR x y os i y.length c)(hi:i<x.length):TI x y (os.set (i+y.length) c) (i+1):=by
 obtain⟨h1,h2,h3,h4,h5⟩:=h;have hs:=q9 (xs:=os) (i:=i+y.length) (v:=c) (by omega);rw[h4,Nat.mul_zero,Nat.add_zero]at hs;refine⟨by simp[h1],z2U h2 h3,?_⟩;rw[hs,h5,List.take_of_length_le (Nat.le_refl _),aM x i,Nat.add_mul,Nat.mul_assoc]
theorem TI.done {x y os:List Nat}(h:TI x y os x.length):ah os=ah x*ah y:=by rw[h.2.2,List.take_of_length_le (Nat.le_refl _)]
end Go.Gb
namespace Go.Proofs.YtcchkjpdchcjpaaGreatDoor
open Go.RowKit Go.Gb
def Blk4 (w:World) (g:Nat) (zs:List Nat):Prop:=w.heap[g]? = some (.cells (cls .u32 zs).toArray 81 (0,0))
theorem Blk4.cell {w:World}{g:Nat}{zs:List Nat}(h:Blk4 w g zs){i:Nat}(hi:i<zs.length):w.cell? ⟨g,i,none⟩=some (.int .u32 ((zs.getD i 0:Nat):Int)):=by
 unfold Blk4 at h
 have:=jA (k:=.u32) hi;simp only[World.cell?,h];simpa using this
theorem Blk4.free {w:World}{g:Nat}{zs:List Nat}(h:Blk4 w g zs)(i:Nat):w.frozen? ⟨g,i,none⟩=false:=by
 unfold Blk4 at h
 simp only[World.frozen?,h];simp
theorem Blk4.set {w:World}{g:Nat}{zs:List Nat}(h:Blk4 w g zs)(i v:Nat):Blk4 (w.setCell ⟨g,i,none⟩ (.int .u32 ((v:Nat):Int))) g (zs.set i v):=by
 unfold Blk4 at *
 simp only[World.setCell,Array.getElem?_modify,h];simp[rF]
theorem Blk4.below {w w':World}{g:Nat}{zs:List Nat}(h:Blk4 w g zs)(hb:Below w.heap.size w w'):Blk4 w' g zs:=by
 unfold Blk4 at *
 rw[hb.block g (Array.getElem?_eq_some_iff.1 h).1];exact h
theorem Blk4.own {w:World}{g B:Nat}{zs:List Nat}(h:Blk4 w g zs)(hB:B≤g)(hm:zs.length≤maxLen):Own .u32 81 B w (.slice (some ⟨g,0,none⟩) zs.length zs.length) zs:=by
 refine⟨by simp[cls],Or.inr ⟨g,zs.length,(cls .u32 zs).toArray,rfl,hB,h,Nat.le_refl _,hm,by simp[cls],?_⟩⟩;rw[Nat.mul_one,← mI,List.take_of_length_le (Nat.le_refl _)]
theorem Blk4.of_made {w:World}{B g n:Nat}{xs:List Value}{zs:List Nat}(h:w.ownsRow B 81 1 (.slice (some ⟨g,0,none⟩) n n) n xs)(hx:xs=cls .u32 zs):Blk4 w g zs:=by
 obtain⟨h1,h2⟩:=h;rcases h2 with⟨h2,_⟩|⟨g',cap,cur,hv,hg,hh,hn,hc,hs,ht⟩
 · cases h2
 · injection hv with e1 e2 e3
   injection e1 with e1
   injection e1 with e4 e5 e6
   subst e4 e3;unfold Blk4
   rw[hh];rw[Nat.mul_one]at ht hs;rw[List.take_of_length_le (by simpa using Nat.le_of_eq hs)]at ht;congr 2
   rw[← hx,← ht]
set_option maxRecDepth 100000
set_option maxHeartbeats 20000000
open Go.Lib (hid)
theorem ja (n:Nat):(madeCells #[Value.int .u32 0] n).toList=cls .u32 (List.replicate n 0):=by
 apply List.ext_getElem
 · simp[size_madeCells,cls]
 · intro i h1 h2
   simp[madeCells,cls,Nat.mod_one]
theorem vT (b1 o1 c1 b2 o2 c2:Nat)(xs ys:List Nat)(hxp:0<xs.length)(hyp:0<ys.length)(hxl:xs.length≤100000)(hyl:ys.length≤100000)(hx:∀ x∈xs,x<BB)(hy:∀ y∈ys,y<BB)(w:World)(hb1:b1<w.heap.size)(hb2:b2<w.heap.size)
 (hcx:∀ i,i<xs.length→w.cell? ⟨b1,o1+i,none⟩=some (.int .u32 ((xs.getD i 0:Nat):Int))) (hcy:∀ i,i<ys.length→w.cell? ⟨b2,o2+i,none⟩=some (.int .u32 ((ys.getD i 0:Nat):Int))) :
 Calls Tryz.prog 53 #[.slice (some ⟨b1,o1,none⟩) xs.length c1,.slice (some ⟨b2,o2,none⟩) ys.length c2] w fun e w'=>∃ v,e=.returned v∧Own .u32 81 w.heap.size w' v (aa (ah xs*ah ys))∧Below w.heap.size w w':=by
 obtain⟨i0,hi,hz0,hz1,hz2⟩:=info_parts Tryz.info81;obtain ⟨HX,HY,HCX,HCY⟩:=aY hx hy hcx hcy;have d1:((xs.length:Int)==0)=false:=beq_eq_false_iff_ne.2 (by omega);have d2:((ys.length:Int)==0)=false:=beq_eq_false_iff_ne.2 (by omega);clear hx hy hcx hcy;go_enter func53,ntmps53
 go_wp2_with (at_make;refine wpList_make_full _ rfl _ _ 45 rfl w.heap.size 81 i0 (.int .u32 0) 1 underlying45 hi hz0 hz1 _ _ _ _ (xs.length+ys.length) rfl rfl (by omega) (by omega) ?b2 ?b3 (Nat.le_refl _) ?_)
 case b2=>rw[hz2];omega
 case b3=>unfold maxLen;omega
 intro w0 hown0 hgrow0;have u6:=hid (show Blk4 w0 w.heap.size (List.replicate (xs.length+ys.length) 0) from Blk4.of_made hown0 (ja _));have HN0:=hid ((Below.refl w.heap.size w).grown hgrow0 (Nat.le_refl _) (fun k h=>by cases h));clear hown0 hgrow0;go_wp2;go_loopw [6,7,8,9] (fun ii _ _ _ wr=>∃ (i:Nat) (os:List Nat),i≤xs.length∧ii=.int .i64 i∧Hid (TI xs ys os i)∧Hid (Blk4 wr w.heap.size os)∧Hid (Below w.heap.size w wr)) (fun ii _ _ _ _=>xs.length-(intOf ii).toNat)
 case atStart=>exact⟨0,_,Nat.zero_le _,rfl,TI.start xs ys,u6,HN0⟩
 case round =>
  obtain⟨i,os,hi',rfl,hT,hB,hn⟩:=hrel;by_cases hlt:i<xs.length
  · have HR:=hid (hT.o.row hlt HX.o HY.o)
    have i1:(i:Int)<(xs.length:Int):=by omega
    clear hT;go_wp2;obtain⟨wo,rfl⟩:∃ wo:World,wo=wr:=⟨_,rfl⟩;go_loopw [7,8,9] (fun cc kk _ wr=>∃ (k c:Nat) (os:List Nat),k≤ys.length∧kk=.int .i64 k∧cc=.int .u64 (c:Int)∧Hid (TR xs ys os i k c)∧Hid (Blk4 wr w.heap.size os)∧Hid (Below w.heap.size w wr)) (fun _ kk _ _=>ys.length-(intOf kk).toNat)
    case atStart=>exact⟨0,0,os,Nat.zero_le _,rfl,rfl,HR,hB,hn⟩
    case round =>
        clear HR hB hn;obtain⟨k,c,os,hk',rfl,rfl,hR,hB,hn⟩:=hrel;have hol:=hR.o.1;have hcB:=hR.o.2.2.1;rw[aG]at hcB;have hc9:(c:Int)≤999999999:=by omega
        by_cases hkt:k<ys.length
        · have hst:=hR.o.step hlt hkt HX.o HY.o
          have hbd:=TR.bound (hR.o.2.1 _ (aX (xs:=os) (i:=i+k) (by omega))) (HX.o _ (aX hlt)) (HY.o _ (aX hkt)) hR.o.2.2.1;have hoB:=hR.o.2.1 _ (aX (xs:=os) (i:=i+k) (by omega));have hxB:=HX.o _ (aX hlt);have hyB:=HY.o _ (aX hkt);have hco:=hB.o.cell (i:=i+k) (by omega);have hcx:=(hn.o.cell (p:=⟨b1,o1+i,none⟩) hb1).trans (HCX.o i hlt);have hcy:=(hn.o.cell (p:=⟨b2,o2+k,none⟩) hb2).trans (HCY.o k hkt);have hset:=hB.o.set (i+k) ((os.getD (i+k) 0+xs.getD i 0*ys.getD k 0+c)%BB);have hfr:=hB.o.free (i+k);have j1:(k:Int)<(ys.length:Int):=by omega
          have j2:(i:Int)+(k:Int)<(xs.length:Int)+(ys.length:Int):=by omega
          generalize os.getD (i+k) 0=o at *;generalize xs.getD i 0=x at *;generalize ys.getD k 0=y at *;obtain⟨p,hp⟩:∃ p:Nat,p=x*y:=⟨_,rfl⟩;have e1:(x:Int)*(y:Int)=(p:Int):=by rw[hp];exact(Int.natCast_mul _ _).symm
          rw[← hp]at hbd hst hset;obtain⟨lo,hlo⟩:∃ lo:Nat,lo=(o+p+c)%BB:=⟨_,rfl⟩;obtain⟨q,hq⟩:∃ q:Nat,q=(o+p+c) / BB:=⟨_,rfl⟩;rw[← hlo,← hq]at hst;rw[← hlo]at hset;rw[aG]at hoB hxB hyB;have hp9:(p:Int)≤999999998000000001:=by omega
          have ho9:(o:Int)≤999999999:=by omega
          have w1:IntKind.u64.wrap (p:Int)=(p:Int):=IntWalk.u64_in _ (by omega);have hmod:((o:Int)+(p:Int)+(c:Int))%1000000000=(lo:Int):=by rw[hlo,aG];omega
          have hdiv:((o:Int)+(p:Int)+(c:Int)) / 1000000000=(q:Int):=by rw[hq,aG];omega
          have hlo9:(lo:Int)≤999999999:=by rw[aG]at hlo;omega
          have hx9:(x:Int)≤999999999:=by omega
          have hy9:(y:Int)≤999999999:=by omega
          have HST:=hid hst;have HSET:=hid (fun nq=>(show Blk4 ((wr.drewN nq).setCell ⟨w.heap.size,i+k,none⟩ (.int .u32 (lo:Int))) w.heap.size (os.set (i+k) lo) from hset));have HNN:=hid (fun nq=>(below_drewN' hn.o nq).setCell (p:=⟨w.heap.size,i+k,none⟩) (Nat.le_refl _) (.int .u32 (lo:Int)));have hco':∀ nq,(wr.drewN nq).cell? ⟨w.heap.size,i+k,none⟩=some (.int .u32 (o:Int)):=fun _=>hco;have hfr':∀ nq,(wr.drewN nq).frozen? ⟨w.heap.size,i+k,none⟩=false:=fun _=>hfr;clear hst hset hbd hlo hq hp hoB hxB hyB hcB hR hB hn;go_wp2;go_quiet (fail)
          have hco2:=hco' nq;have hfr2:=hfr' nq;obtain ⟨HSET2,HNN2⟩:=aH (HSET.o nq) (HNN.o nq);clear hco hfr hcx hcy hco' hfr' HSET HNN;generalize wr.drewN nq=w2 at *;go_wp2;go_roundw
          case rel=>exact⟨k+1,q,os.set (i+k) lo,by omega,by go_num,cK hdiv,HST,HSET2,HNN2⟩
          case measure=>simp[intOf];omega
        · obtain rfl:k=ys.length:=by omega
          have hnx:=hR.o.next hlt;have hset:=hB.o.set (i+ys.length) c;have hco:=hB.o.cell (i:=i+ys.length) (by omega);have hfr:=hB.o.free (i+ys.length);obtain ⟨HNX,HSET⟩:=aH hnx hset;have HN2:=hid (hn.o.setCell (p:=⟨w.heap.size,i+ys.length,none⟩) (Nat.le_refl _) (.int .u32 (c:Int)));have j2:(i:Int)+(ys.length:Int)<(xs.length:Int)+(ys.length:Int):=by omega
          clear hnx hset hR hB hn hcB;generalize os.getD (i+ys.length) 0=o at *;go_wp2;go_roundw
          case rel=>exact⟨i+1,os.set (i+ys.length) c,by omega,by go_num,HNX,HSET,HN2⟩
          case measure=>simp[intOf];omega
  · obtain rfl:i=xs.length:=by omega
    have hv:=hT.o.done;have hol:=hT.o.1;have hown:=hB.o.own (B:=w.heap.size) (Nat.le_refl _) (by unfold maxLen;omega);rw[hol]at hown;have htr:=gM 81 w.heap.size _ os hT.o.2.1 wr hown;rw[hv]at htr;have HTR:=hid htr;clear hv hol hown htr hT hB;go_wp2_with fail
    refine HTR.o.mono ?_;rintro e w2 ⟨v',rfl,hown,rfl⟩;go_wp2;go_ret
    exact⟨v',rfl,hown,hn.o⟩
end Go.Proofs.YtcchkjpdchcjpaaGreatDoor
namespace Go.Gb
theorem z2F {Yt Z V r P t c B:Nat}(hZ:Z<P)(hr:r<P)(hs:Yt+V=Z+P*c)(hY:Yt+P*t+V=r+P*B):c+t=B:=by
 have h:Z+P*(c+t)=r+P*B:=by rw[Nat.mul_add];omega
 have hP:0<P:=by omega
 have h1:=congrArg (· / P) h;simp only[Nat.add_mul_div_left _ _ hP,Nat.div_eq_of_lt hZ,Nat.div_eq_of_lt hr,Nat.zero_add]at h1;exact h1
end Go.Gb
namespace Go.Proofs.YtcchkjpdchcjpaaGreatDoor
open Go.RowKit Go.Gb
def Row4 (w:World) (g cap:Nat) (zs:List Nat):Prop:=∃ cur:Array Value,w.heap[g]? = some (.cells cur 81 (0,0))∧cur.size=cap∧zs.length≤cap∧cur.toList.take zs.length=cls .u32 zs
theorem Row4.lt {w:World}{g cap:Nat}{zs:List Nat}(h:Row4 w g cap zs):g<w.heap.size:=by
 obtain⟨cur,h1,_⟩:=h;exact(Array.getElem?_eq_some_iff.1 h1).1
theorem Row4.le {w:World}{g cap:Nat}{zs:List Nat}(h:Row4 w g cap zs):zs.length≤cap:=by
 obtain⟨cur,_,_,h3,_⟩:=h;exact h3
theorem Row4.cell {w:World}{g cap:Nat}{zs:List Nat}(h:Row4 w g cap zs){i:Nat}(hi:i<zs.length):w.cell? ⟨g,i,none⟩=some (.int .u32 ((zs.getD i 0:Nat):Int)):=by
 obtain⟨cur,h1,h2,h3,h4⟩:=h;have h5:=jA (k:=.u32) hi;rw[← h4,List.getElem?_take,if_pos hi]at h5;simp only[World.cell?,h1];simpa using h5
theorem Row4.free {w:World}{g cap:Nat}{zs:List Nat}(h:Row4 w g cap zs)(i:Nat):w.frozen? ⟨g,i,none⟩=false:=by
 obtain⟨cur,h1,h2,h3,h4⟩:=h;simp only[World.frozen?,h1];simp
theorem Row4.set {w:World}{g cap:Nat}{zs:List Nat}(h:Row4 w g cap zs)(i v:Nat):Row4 (w.setCell ⟨g,i,none⟩ (.int .u32 ((v:Nat):Int))) g cap (zs.set i v):=by
 obtain⟨cur,h1,h2,h3,h4⟩:=h;refine⟨cur.setIfInBounds i (.int .u32 (v:Int)),?_,by simp[h2],by simpa using h3,?_⟩
 · simp only[World.setCell,Array.getElem?_modify,h1]
   simp
 · rw[List.length_set,rF,← h4,Array.toList_setIfInBounds,List.take_set]
theorem Row4.aside {w:World}{g cap k i:Nat}{zs:List Nat}{v:Value}(h:Row4 w g cap zs)(hne:g≠k):Row4 (w.setCell ⟨k,i,none⟩ v) g cap zs:=by
 obtain⟨cur,h1,h2,h3,h4⟩:=h;exact⟨cur,by rw[Below.heap_setCell _ _ _ _ hne];exact h1,h2,h3,h4⟩
theorem Row4.below {w w':World}{g cap:Nat}{zs:List Nat}(h:Row4 w g cap zs)(hb:Below w.heap.size w w'):Row4 w' g cap zs:=by
 obtain⟨cur,h1,h2,h3,h4⟩:=h;exact⟨cur,by rw[hb.block g (Array.getElem?_eq_some_iff.1 h1).1];exact h1,h2,h3,h4⟩
theorem Row4.drewN {w:World}{g cap:Nat}{zs:List Nat}(h:Row4 w g cap zs)(n:Nat):Row4 (w.drewN n) g cap zs:=h
theorem Row4.take {w:World}{g cap:Nat}{zs:List Nat}(h:Row4 w g cap zs)(m:Nat)(hm:m≤zs.length):Row4 w g cap (zs.take m):=by
 obtain⟨cur,h1,h2,h3,h4⟩:=h;refine⟨cur,h1,h2,by simp;omega,?_⟩;rw[mI,← h4,List.take_take,List.length_take,Nat.min_eq_left hm]
theorem Row4.own {w:World}{g cap B:Nat}{zs:List Nat}(h:Row4 w g cap zs)(hB:B≤g)(hm:cap≤maxLen):Own .u32 81 B w (.slice (some ⟨g,0,none⟩) zs.length cap) zs:=by
 obtain⟨cur,h1,h2,h3,h4⟩:=h;refine⟨by simp[cls],Or.inr ⟨g,cap,cur,rfl,hB,h1,h3,hm,by simp[h2],?_⟩⟩;rw[Nat.mul_one];exact h4
theorem Row4.of_own {w:World}{B:Nat}{v:Value}{zs:List Nat}(h:Own .u32 81 B w v zs)(hp:0<zs.length):∃ g cap,v=.slice (some ⟨g,0,none⟩) zs.length cap∧B≤g∧cap≤maxLen∧Row4 w g cap zs:=by
 obtain⟨h1,h2⟩:=h;rcases h2 with⟨h2,h3⟩|⟨g,cap,cur,hv,hg,hh,hn,hc,hs,ht⟩
 · omega
 · rw[Nat.mul_one]at hs ht
   exact⟨g,cap,hv,hg,hc,cur,hh,hs,hn,ht⟩
set_option maxRecDepth 100000
set_option maxHeartbeats 20000000
theorem fG {W w1:World}(hb:Below W.heap.size W w1):(∀ b o,b<W.heap.size→w1.cell? ⟨b,o,none⟩=W.cell? ⟨b,o,none⟩)∧(∀ b o,b<W.heap.size→w1.frozen? ⟨b,o,none⟩=W.frozen? ⟨b,o,none⟩) :=
 ⟨fun b o h=>hb.cell (p:=⟨b,o,none⟩) h,fun b o h=>hb.frozen (p:=⟨b,o,none⟩) h⟩
def Zz (w:World):Prop:=1<w.heap.size∧w.cell? ⟨1,0,none⟩=some (.int .i64 0)∧w.cell? ⟨1,1,none⟩=some (.string ⟨#[48]⟩)
theorem Zz.on {w w':World}(h:Zz w)(hb:Below w.heap.size w w'):Zz w' :=
 ⟨Nat.lt_of_lt_of_le h.1 hb.size,(hb.cell (p:=⟨1,0,none⟩) h.1).trans h.2.1,(hb.cell (p:=⟨1,1,none⟩) h.1).trans h.2.2⟩
structure La (w:World):Prop where
 tb:Tb w
 zz:Zz w
theorem La.on {w w':World}(h:La w)(hb:Below w.heap.size w w'):La w':=⟨h.tb.on hb,h.zz.on hb⟩
theorem uF:Sn 0=⟨#[48]⟩:=by decide +kernel
theorem z4v:Sn 1=⟨#[49]⟩:=by decide +kernel
theorem qw (n:Nat):(Sn n).toList=Lib.decDigits n:=by rw[toList_data,bS]
theorem zM {x y:Nat}(h:x≠y):((Sn x).toList==(Sn y).toList)=false:=by
 rw[beq_eq_false_iff_ne,qw,qw];exact fun h2=>h (z3Z h2)
theorem zL {x:Nat}(h:x≠0):((Sn x).toList==[48])=false:=by
 rw[beq_eq_false_iff_ne,qw];intro h2;apply h
 rw[← gp x,h2];rfl
def Zv (z:Int):Value:=.agg #[.int .i64 z.sign,.string (Sn z.natAbs)]
def Sz (z:Int):ByteArray:=if z<0 then ⟨(45 :: Lib.decDigits z.natAbs).toArray⟩ else Sn z.natAbs
theorem jg {n:Nat}(h:n≠0):Sz (-(n:Int))=⟨(45 :: Lib.decDigits n).toArray⟩:=by
 unfold Sz;rw[if_pos (by omega),Int.natAbs_neg,Int.natAbs_natCast]
theorem di (n:Nat):Sz (n:Int)=Sn n:=by
 unfold Sz;rw[if_neg (by omega),Int.natAbs_natCast]
theorem gH {n:Nat}(h:n≠0):Zv (-(n:Int))=.agg #[.int .i64 (-1),.string (Sn n)]:=by
 unfold Zv;rw[Int.natAbs_neg,Int.natAbs_natCast,Int.sign_neg,Int.sign_natCast_of_ne_zero h]
theorem gG {n:Nat}(h:n≠0):Zv (n:Int)=.agg #[.int .i64 1,.string (Sn n)]:=by
 unfold Zv;rw[Int.natAbs_natCast,Int.sign_natCast_of_ne_zero h]
theorem gF:Zv 0=.agg #[.int .i64 0,.string ⟨#[48]⟩]:=by
 unfold Zv;rw[← uF];rfl
theorem bU (z:Int):(∃ n:Nat,n≠0∧z = -(n:Int))∨z=0∨∃ n:Nat,n≠0∧z=(n:Int):=by
 rcases Int.lt_trichotomy z 0 with h|h|h
 · left;exact⟨z.natAbs,by omega,by omega⟩
 · right;left;exact h
 · right;right;exact⟨z.natAbs,by omega,by omega⟩
def FitZ (z:Int):Prop:=Fit z.natAbs
theorem FitZ.neg {n:Nat}(h:FitZ (-(n:Int))):Fit n:=by unfold FitZ at h;rwa [Int.natAbs_neg,Int.natAbs_natCast]at h
theorem FitZ.nat {n:Nat}(h:FitZ (n:Int)):Fit n:=by unfold FitZ at h;rwa [Int.natAbs_natCast]at h
theorem Fit.neg {n:Nat}(h:Fit n):FitZ (-(n:Int)):=by unfold FitZ;rwa [Int.natAbs_neg,Int.natAbs_natCast]
theorem Fit.nat {n:Nat}(h:Fit n):FitZ (n:Int):=by unfold FitZ;rwa [Int.natAbs_natCast]
theorem fit0:Fit 0:=(show Sm 1 0 by simp[Sm]).mono (by decide)
theorem fit1:Fit 1:=(show Sm 1 1 by simp[Sm]).mono (by decide)
theorem fO (s:Int)(b:ByteArray)(h1 : -1≤s)(h2:s≤1)(w:World) :
 CR 198 #[.agg #[.int .i64 s,.string b]] w (.agg #[.int .i64 (-s),.string b]):=by
 go_enter func198,ntmps198
 go_wp2;refine bodyPost_ret (v:=.agg #[.int .i64 (-s),.string b]) (by simp[results,results198,go_sem]) rfl ⟨rfl,?_⟩;repeat (first|exact Below.refl _ _|refine Below.setCell ?_ (by simp) _|refine Below.alloc ?_ (by simp) _|refine Below.drew ?_)
theorem iq (z:Int)(w:World) :
 CR 198 #[Zv z] w (Zv (-z)):=by
 have h:=fO z.sign (Sn z.natAbs) (by rcases Int.sign_trichotomy z with h|h|h<;>omega) (by rcases Int.sign_trichotomy z with h|h|h<;>omega) w;unfold Zv
 rw[Int.sign_neg,Int.natAbs_neg];exact h
theorem iJ (z:Int)(hf:FitZ z)(w:World) :
 CR 144 #[Zv z] w (.string (Sz z)):=by
 rcases bU z with⟨n,hn,rfl⟩|rfl|⟨n,hn,rfl⟩
 · rw[gH hn,jg hn]
   have hadd:=run_string_add_sum (P:=Tryz.prog) (w.alloc (.cells #[.int .i64 (-1),.string (Sn n)] 136)) ⟨#[45]⟩ (Sn n) (by have:=hf.neg.size;have e:(⟨#[45]⟩:ByteArray).size=1:=rfl;omega);clear hn hf;go_enter func144,ntmps144
   go_wp2;go_ret
   refine⟨?_,(Below.refl _ _).alloc (Nat.le_refl _) _⟩
   have e:(⟨#[45]⟩:ByteArray)++Sn n=⟨(45 :: Lib.decDigits n).toArray⟩:=by
    apply ByteArray.ext
    apply Array.ext'
    simp[Sn]
   rw[e];rfl
 · rw[gF,show Sz 0=⟨#[48]⟩from(di 0).trans uF]
   go_enter func144,ntmps144
   go_wp2;go_ret
   exact⟨rfl,(Below.refl _ _).alloc (Nat.le_refl _) _⟩
 · rw[gG hn,di]
   go_enter func144,ntmps144
   go_wp2;go_ret
   exact⟨rfl,(Below.refl _ _).alloc (Nat.le_refl _) _⟩
theorem uG (s:Int)(w:World)(hz:Zz w) :
 CR 136 #[.int .i64 s,.string ⟨#[48]⟩] w (Zv 0):=by
 rw[gF];obtain⟨h0,h1,h2⟩:=hz;go_enter func136,ntmps136
 go_wp2;refine bodyPost_ret (v:=.agg #[.int .i64 0,.string ⟨#[48]⟩]) (by simp[results,results136,go_sem]) rfl ⟨rfl,?_⟩;repeat (first|exact Below.refl _ _|refine Below.setCell ?_ (by simp) _|refine Below.alloc ?_ (by simp) _|refine Below.drew ?_)
theorem uH (s:Int)(n:Nat)(hn:n≠0)(w:World) :
 CR 136 #[.int .i64 s,.string (Sn n)] w (.agg #[.int .i64 s,.string (Sn n)]):=by
 have h0:=zL hn;clear hn;go_enter func136,ntmps136
 go_wp2;refine bodyPost_ret (v:=.agg #[.int .i64 s,.string (Sn n)]) (by simp[results,results136,go_sem]) rfl ⟨rfl,?_⟩;repeat (first|exact Below.refl _ _|refine Below.setCell ?_ (by simp) _|refine Below.alloc ?_ (by simp) _|refine Below.drew ?_)
theorem l9 (s:Int)(n:Nat)(z:Int)(hz:z=s*(n:Int))(hs:s=1∨s = -1)(w:World)(hl:Zz w) :
 CR 136 #[.int .i64 s,.string (Sn n)] w (Zv z):=by
 by_cases hn:n=0
 · subst hn
   obtain rfl:z=0:=by rw[hz];simp
   rw[uF];exact uG s w hl
 · have h:=uH s n hn w
   rcases hs with rfl|rfl
   · rw[show z=(n:Int) by omega,gG hn];exact h
   · rw[show z = -(n:Int) by omega,gH hn];exact h
open Go.Lib (hid)
def vldZ (l:List UInt8):Bool:=match l with
 | []=>false
 | c :: t=>if c=45 then vld t && !(t==[48]) else vld (c :: t)
def zval (l:List UInt8):Int:=match l with
 | []=>0
 | c :: t=>if c=45 then -(aL t:Int) else (aL (c :: t):Int)
theorem jK {n:Nat}:∃ c t,Lib.decDigits n=c :: t∧c≠45:=by
 cases h:Lib.decDigits n with
 | nil=>exact absurd h (iT n)
 | cons c t =>
   refine⟨c,t,rfl,?_⟩;have h1:=jb n;rw[h]at h1;simp only[List.all_cons,Bool.and_eq_true]at h1;have h2:=(fE c).1 h1.1;intro h3;subst h3;simp at h2
theorem qj (n:Nat):vldZ (Lib.decDigits n)=true:=by
 obtain⟨c,t,h,hc⟩:=jK (n:=n);have hv:=mV n;rw[h]at hv ⊢;unfold vldZ
 simp only[if_neg hc,hv]
theorem mq (n:Nat):zval (Lib.decDigits n)=(n:Int):=by
 obtain⟨c,t,h,hc⟩:=jK (n:=n);have hv:=gp n;rw[h]at hv ⊢;unfold zval
 simp only[if_neg hc,hv]
theorem z5H {n:Nat}(h:Lib.decDigits n=[48]):n=0:=by rw[← gp n,h];rfl
theorem z1o {n:Nat}(hn:n≠0):vldZ (45 :: Lib.decDigits n)=true:=by
 have h:(Lib.decDigits n==[48])=false:=beq_eq_false_iff_ne.2 (fun h=>hn (z5H h));unfold vldZ
 simp[mV n,h]
theorem z1d (n:Nat):zval (45 :: Lib.decDigits n) = -(n:Int):=by
 unfold zval
 simp[gp n]
theorem zA {a:ByteArray}(h:vldZ a.data.toList=true):a=Sz (zval a.data.toList):=by
 cases a with
 | mk d =>
   cases hl:d.toList with
   | nil=>simp[hl,vldZ]at h
   | cons c t =>
     simp only[hl]at h ⊢;by_cases hc:c=45
     · subst hc
       simp only[vldZ,if_true,Bool.and_eq_true]at h;obtain⟨h1,h2⟩:=h;have hd:=jN t h1
       have hne:aL t≠0:=by
        intro h0;rw[h0,Lib.decDigits_one (by decide)]at hd;rw[← hd]at h2;simp at h2
       have e:zval (45 :: t) = -(aL t:Int):=by simp[zval]
       rw[e,jg hne,hd,← hl]
     · simp only[vldZ,if_neg hc]at h
       have hd:=jN (c :: t) h;have e:zval (c :: t)=(aL (c :: t):Int):=by simp[zval,hc]
       rw[e,di];unfold Sn
       rw[hd,← hl]
theorem z4t (z:Int):vldZ (Sz z).data.toList=true:=by
 rcases bU z with⟨n,hn,rfl⟩|rfl|⟨n,hn,rfl⟩
 · rw[jg hn];simpa using z1o hn
 · rw[show Sz 0=Sn 0 from di 0,bS];exact qj 0
 · rw[di,bS];exact qj n
theorem wE (z:Int):zval (Sz z).data.toList=z:=by
 rcases bU z with⟨n,hn,rfl⟩|rfl|⟨n,hn,rfl⟩
 · rw[jg hn];simpa using z1d n
 · rw[show Sz 0=Sn 0 from di 0,bS];exact mq 0
 · rw[di,bS];exact mq n
theorem vJ (l:List UInt8)(w:World) :
 Calls Tryz.prog 134 #[.string ⟨(45 :: l).toArray⟩,.string ⟨#[45]⟩] w fun e w'=>e=.returned (.tuple #[.string ⟨l.toArray⟩,.bool true])∧w=w':=by
 refine(Tryz.strings_CutPrefix _ _ w).mono ?_;rintro e w' ⟨rfl,rfl⟩;refine⟨?_,rfl⟩;simp[Lib.trimPrefix,Lib.hasPrefix,List.isPrefixOf]
theorem z0U (s:ByteArray)(h:∀ t,s.data.toList≠45 :: t)(w:World) :
 Calls Tryz.prog 134 #[.string s,.string ⟨#[45]⟩] w fun e w'=>e=.returned (.tuple #[.string s,.bool false])∧w=w':=by
 refine(Tryz.strings_CutPrefix _ _ w).mono ?_;rintro e w' ⟨rfl,rfl⟩;refine⟨?_,rfl⟩
 have hp:Lib.hasPrefix s.data.toList [45]=false:=by
  unfold Lib.hasPrefix
  cases hl:s.data.toList with
  | nil=>rfl
  | cons c t =>
    have:¬ 45=c:=by intro hc;subst hc;exact h t hl
    simp[List.isPrefixOf,this]
 have e:(⟨#[45]⟩:ByteArray).data.toList=[45]:=rfl;rw[e,hp];unfold Lib.trimPrefix
 rw[hp];cases s
 simp
def Zno:Value:=.agg #[.int .i64 0,.string ⟨#[]⟩]
theorem z1E (n:Nat)(hn:n≠0)(hf:Fit n)(w:World) :
 CR 110 #[.string ⟨(45 :: Lib.decDigits n).toArray⟩] w (.tuple #[.agg #[.int .i64 (-1),.string (Sn n)],.bool true]):=by
 have HC:=hid (vJ (Lib.decDigits n));rw[show(⟨(Lib.decDigits n).toArray⟩:ByteArray)=Sn n from rfl]at HC;have HV:=hid (z3c n hf);have h0:=zL hn;clear hn hf;go_enter func110,ntmps110
 go_wp2_with fail
 refine(HC.o _).mono ?_;rintro e w' ⟨rfl,rfl⟩;go_wp2_with fail
 refine(HV.o _).mono ?_;rintro e w' ⟨rfl,rfl⟩;go_wp2;refine bodyPost_ret (v:=.tuple #[.agg #[.int .i64 (-1),.string (Sn n)],.bool true]) (by simp[results,results110,go_sem]) rfl ⟨rfl,?_⟩;repeat (first|exact Below.refl _ _|refine Below.setCell ?_ (by simp) _|refine Below.alloc ?_ (by simp) _|refine Below.drew ?_)
theorem z5C {n:Nat}:∀ t,(Sn n).data.toList≠45 :: t:=by
 intro t h;rw[bS]at h;obtain⟨c,t',h2,hc⟩:=jK (n:=n);rw[h2]at h;injection h with h3 h4
 exact hc h3
theorem wN (n:Nat)(hf:Fit n)(w:World)(hl:Zz w) :
 CR 110 #[.string (Sn n)] w (.tuple #[Zv (n:Int),.bool true]):=by
 have HC:=hid (z0U (Sn n) z5C);have HV:=hid (z3c n hf);have hb0:=(Below.refl w.heap.size w).alloc (Nat.le_refl _) (.cells #[.int .i64 0,.string ⟨#[]⟩] 136);have HS:=hid (l9 1 n (n:Int) (by omega) (Or.inl rfl) _ (hl.on hb0));unfold Zv at *
 generalize (n:Int).sign=s at *;generalize Sn (n:Int).natAbs=b at *;clear hf hl hb0;go_enter func110,ntmps110
 go_wp2_with fail
 refine(HC.o _).mono ?_;rintro e w' ⟨rfl,rfl⟩;go_wp2_with fail
 refine(HV.o _).mono ?_;rintro e w' ⟨rfl,rfl⟩;go_wp2_with fail
 refine HS.o.mono ?_;rintro e w1 ⟨rfl,hb1⟩;have HB:=hid (((Below.refl w.heap.size w).alloc (Nat.le_refl _) (.cells #[.int .i64 0,.string ⟨#[]⟩] 136)).trans (hb1.mono (by simp)));obtain⟨hc,hf⟩:=fG hb1;have hz:w.heap.size<w1.heap.size:=by have:=hb1.size;simp at this;omega
 clear hb1;go_wp2;refine bodyPost_ret (v:=.tuple #[.agg #[.int .i64 s,.string b],.bool true]) (by simp[results,results110,go_sem,hc]) rfl ⟨rfl,?_⟩;repeat (first|exact HB.o|refine Below.setCell ?_ (by simp) _|refine Below.alloc ?_ (by simp) _|refine Below.drew ?_)
theorem kE (z:Int)(hf:FitZ z)(w:World)(hl:Zz w) :
 CR 110 #[.string (Sz z)] w (.tuple #[Zv z,.bool true]):=by
 rcases bU z with⟨n,hn,rfl⟩|rfl|⟨n,hn,rfl⟩
 · rw[jg hn,gH hn];exact z1E n hn hf.neg w
 · rw[show Sz 0=Sn 0 from di 0];exact wN 0 fit0 w hl
 · rw[di];exact wN n hf.nat w hl
theorem z04 (l:List UInt8)(h:vld l=false)(hs:l.length≤maxLen)(w:World) :
 CR 110 #[.string ⟨(45 :: l).toArray⟩] w (.tuple #[Zno,.bool false]):=by
 have HC:=hid (vJ l);have HV:=hid (mK ⟨l.toArray⟩ (by simpa using h) (by simpa [ByteArray.size] using hs));clear h hs;go_enter func110,ntmps110
 go_wp2_with fail
 refine(HC.o _).mono ?_;rintro e w' ⟨rfl,rfl⟩;go_wp2_with fail
 refine(HV.o _).mono ?_;rintro e w' ⟨rfl,rfl⟩;go_wp2;refine bodyPost_ret (v:=.tuple #[Zno,.bool false]) (by simp[results,results110,go_sem,Zno]) rfl ⟨rfl,?_⟩;repeat (first|exact Below.refl _ _|refine Below.setCell ?_ (by simp) _|refine Below.alloc ?_ (by simp) _|refine Below.drew ?_)
theorem z03 (w:World) :
 CR 110 #[.string ⟨(45 :: [48]).toArray⟩] w (.tuple #[Zno,.bool false]):=by
 have HC:=hid (vJ [48]);have HV:=hid (bN ⟨#[48]⟩ (by decide +kernel) (by decide));go_enter func110,ntmps110
 go_wp2_with fail
 refine(HC.o _).mono ?_;rintro e w' ⟨rfl,rfl⟩;go_wp2_with fail
 refine(HV.o _).mono ?_;rintro e w' ⟨rfl,rfl⟩;go_wp2;refine bodyPost_ret (v:=.tuple #[Zno,.bool false]) (by simp[results,results110,go_sem,Zno]) rfl ⟨rfl,?_⟩;repeat (first|exact Below.refl _ _|refine Below.setCell ?_ (by simp) _|refine Below.alloc ?_ (by simp) _|refine Below.drew ?_)
theorem sM (s:ByteArray)(h0:∀ t,s.data.toList≠45 :: t)(h:vld s.data.toList=false)(hs:s.size≤maxLen)(w:World) :
 CR 110 #[.string s] w (.tuple #[Zno,.bool false]):=by
 have HC:=hid (z0U s h0);have HV:=hid (mK s h hs);clear h hs h0;go_enter func110,ntmps110
 go_wp2_with fail
 refine(HC.o _).mono ?_;rintro e w' ⟨rfl,rfl⟩;go_wp2_with fail
 refine(HV.o _).mono ?_;rintro e w' ⟨rfl,rfl⟩;go_wp2;refine bodyPost_ret (v:=.tuple #[Zno,.bool false]) (by simp[results,results110,go_sem,Zno]) rfl ⟨rfl,?_⟩;repeat (first|exact Below.refl _ _|refine Below.setCell ?_ (by simp) _|refine Below.alloc ?_ (by simp) _|refine Below.drew ?_)
theorem z3w (s:ByteArray)(h:vldZ s.data.toList=false)(hs:s.size≤maxLen)(w:World) :
 CR 110 #[.string s] w (.tuple #[Zno,.bool false]):=by
 cases s with
 | mk d =>
   cases hl:d.toList with
   | nil =>
     refine sM ⟨d⟩ (fun t=>by simp[hl]) (by simp[hl,vld]) hs w
   | cons c t =>
     by_cases hc:c=45
     · subst hc
       have hd:d=(45 :: t).toArray:=by rw[← hl]
       have ht:t.length≤maxLen:=by
        have:d.size=t.length+1:=by rw[← Array.length_toList,hl];simp
        simp[ByteArray.size]at hs;omega
       simp only[hl,vldZ,if_true,Bool.and_eq_false_iff]at h;rw[hd];rcases h with h|h
       · exact z04 t h ht w
       · obtain rfl:t=[48]:=by simpa using h
         exact z03 w
     · refine sM ⟨d⟩ (fun t'=>?_) ?_ hs w
       · simp only[hl];intro h2;injection h2 with h3 h4;exact hc h3
       · simp only[hl,vldZ,if_neg hc]at h ⊢;exact h
theorem dA (z:Int)(hf:FitZ z)(w:World)(hl:Zz w) :
 CR 87 #[.string (Sz z)] w (.bool true):=by
 have HR:=hid (kE z hf w hl);unfold Zv at HR
 generalize z.sign=s at *;generalize Sn z.natAbs=b at *;clear hf hl;go_enter func87,ntmps87
 go_wp2_with fail
 refine HR.o.mono ?_;rintro e w1 ⟨rfl,hb1⟩;have HB:=hid hb1;clear hb1;go_wp2;go_ret
 refine⟨rfl,?_⟩;repeat (first|exact HB.o|refine Below.setCell ?_ (by have:=HB.o.size;simp;omega) _|refine Below.alloc ?_ (by have:=HB.o.size;simp;omega) _|refine Below.drew ?_)
theorem mP (a:ByteArray)(h:vldZ a.data.toList=false)(hs:a.size≤maxLen)(w:World) :
 CR 87 #[.string a] w (.bool false):=by
 have HR:=hid (z3w a h hs w);unfold Zno at HR
 clear h hs;go_enter func87,ntmps87
 go_wp2_with fail
 refine HR.o.mono ?_;rintro e w1 ⟨rfl,hb1⟩;have HB:=hid hb1;clear hb1;go_wp2;go_ret
 refine⟨rfl,?_⟩;repeat (first|exact HB.o|refine Below.setCell ?_ (by have:=HB.o.size;simp;omega) _|refine Below.alloc ?_ (by have:=HB.o.size;simp;omega) _|refine Below.drew ?_)
