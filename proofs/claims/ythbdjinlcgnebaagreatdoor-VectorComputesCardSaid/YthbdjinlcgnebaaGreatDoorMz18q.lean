/- texts -/
import Derived.Test.YthbdjinlcgnebaaGreatDoorMz15q
import Derived.Test.YthbdjinlcgnebaaGreatDoorMz16q
import Derived.Test.YthbdjinlcgnebaaGreatDoorMz9q
import Derived.Lib.SmallJoins
open Go.Proofs.Tryz
namespace Go.Proofs.YthbdjinlcgnebaaGreatDoor
open Go.RowKit
abbrev CL (f : FuncId) (args : Array Value) (v : Value) : Prop := ∀ W, La W → Calls Tryz.prog f args W fun e w' => e = .returned v ∧ Below W.heap.size W w'
end Go.Proofs.YthbdjinlcgnebaaGreatDoor
namespace Go.Gb
def TI (x y os:List Nat) (i:Nat):Prop:=os.length=x.length+y.length∧(∀ w∈os,w<BB)∧aj os=aj (x.take i)*aj y
def TR (x y os:List Nat) (i k c:Nat):Prop:=os.length=x.length+y.length∧(∀ w∈os,w<BB)∧c<BB∧os.getD (i+y.length) 0=0∧aj os+BB^(i+k)*c=aj (x.take i)*aj y+BB^i*(x.getD i 0*aj (y.take k))
theorem z2D {os:List Nat}{m v:Nat}(h:∀ w∈os,w<BB)(hv:v<BB):∀ w∈os.set m v,w<BB:=by
 intro w hw;rcases List.mem_or_eq_of_mem_set hw with hw|hw
 · exact h w hw
 · rw[hw];exact hv
theorem z0c {os:List Nat}{m:Nat}(h:aj os<BB^m):os.getD m 0=0:=by
 by_cases hm:m<os.length
 · have h1:=dh os m (by omega)
   rw[fM hm]at h1;rcases Nat.eq_zero_or_pos (os.getD m 0) with h2|h2
   · exact h2
   · have:BB^m*1≤BB^m*(os.getD m 0+BB*aj (os.drop (m+1))):=Nat.mul_le_mul_left _ (by omega)
     omega
 · exact jU (by omega)
theorem TI.start (x y:List Nat):TI x y (List.replicate (x.length+y.length) 0) 0:=by
 refine⟨by simp,fun w hw=>by rw[(List.mem_replicate.1 hw).2];exact bL,?_⟩;have:=eP [] (x.length+y.length);simpa [aj] using this
theorem TI.row {x y os:List Nat}{i:Nat}(h:TI x y os i)(hi:i<x.length)(hx:∀ w∈x,w<BB)(hy:∀ w∈y,w<BB):TR x y os i 0 0:=by
 obtain⟨h1,h2,h3⟩:=h;refine⟨h1,h2,bL,z0c ?_,by rw[h3,Nat.mul_zero,Nat.add_zero,List.take_zero];simp[aj]⟩;have l1:=bU (n:=i) (xs:=x.take i) (fun w hw=>hx w (List.mem_of_mem_take hw)) (by simp;omega);have l2:=dP y hy;rw[h3,Nat.pow_add];exact Nat.mul_lt_mul_of_lt_of_le l1 (Nat.le_of_lt l2) (Nat.pow_pos bL)
theorem TR.bound {o a b c:Nat}(ho:o<BB)(ha:a<BB)(hb:b<BB)(hc:c<BB):a*b≤999999998000000001∧o+a*b+c<BB*BB:=by
 have h:=pG ha hb;refine⟨h,?_⟩;rw[aH]at *;omega
theorem TR.step {x y os:List Nat}{i k c:Nat}(h:TR x y os i k c)(hi:i<x.length)(hk:k<y.length)(hx:∀ w∈x,w<BB)(hy:∀ w∈y,w<BB) :
 TR x y (os.set (i+k) ((os.getD (i+k) 0+x.getD i 0*y.getD k 0+c)%BB)) i (k+1) ((os.getD (i+k) 0+x.getD i 0*y.getD k 0+c) / BB):=by
 obtain⟨h1,h2,h3,h4,h5⟩:=h;have hb:=(TR.bound (h2 _ (aX (i:=i+k) (by omega))) (hx _ (aX hi)) (hy _ (aX hk)) h3).2;have hm:=Nat.div_add_mod (os.getD (i+k) 0+x.getD i 0*y.getD k 0+c) BB;have hs:=pF (xs:=os) (i:=i+k) (v:=(os.getD (i+k) 0+x.getD i 0*y.getD k 0+c)%BB) (by omega);refine⟨by simp[h1],z2D h2 (Nat.mod_lt _ bL),(Nat.div_lt_iff_lt_mul bL).2 hb,?_,?_⟩
 · rw[kL,if_neg (by omega)];exact h4
 · rw[aJ y k,Nat.mul_add (x.getD i 0),Nat.mul_add (BB^i)]
   rw[show BB^i*(x.getD i 0*(BB^k*y.getD k 0))=BB^(i+k)*(x.getD i 0*y.getD k 0) by rw[Nat.pow_add,Nat.mul_left_comm (x.getD i 0),Nat.mul_assoc]];rw[← Nat.add_assoc i k 1,Nat.pow_succ,Nat.mul_assoc];generalize (os.getD (i+k) 0+x.getD i 0*y.getD k 0+c)%BB=lo at *;generalize (os.getD (i+k) 0+x.getD i 0*y.getD k 0+c) / BB=q at *;have e:=congrArg (BB^(i+k) * ·) hm;simp only[Nat.mul_add]at e;omega
theorem TR.next {x y os:List Nat}{i c:Nat}(h:TR x y os i y.length c)(hi:i<x.length):TI x y (os.set (i+y.length) c) (i+1):=by
 obtain⟨h1,h2,h3,h4,h5⟩:=h;have hs:=pF (xs:=os) (i:=i+y.length) (v:=c) (by omega);rw[h4,Nat.mul_zero,Nat.add_zero]at hs;refine⟨by simp[h1],z2D h2 h3,?_⟩;rw[hs,h5,List.take_of_length_le (Nat.le_refl _),aJ x i,Nat.add_mul,Nat.mul_assoc]
theorem TI.done {x y os:List Nat}(h:TI x y os x.length):aj os=aj x*aj y:=by rw[h.2.2,List.take_of_length_le (Nat.le_refl _)]
end Go.Gb
namespace Go.Proofs.YthbdjinlcgnebaaGreatDoor
open Go.RowKit Go.Gb
def Blk4 (w:World) (g:Nat) (zs:List Nat):Prop:=w.heap[g]? = some (.cells (cls .u32 zs).toArray 96 (0,0))
theorem Blk4.cell {w:World}{g:Nat}{zs:List Nat}(h:Blk4 w g zs){i:Nat}(hi:i<zs.length):w.cell? ⟨g,i,none⟩=some (.int .u32 ((zs.getD i 0:Nat):Int)):=by
 unfold Blk4 at h
 have:=jm (k:=.u32) hi;simp only[World.cell?,h];simpa using this
theorem Blk4.free {w:World}{g:Nat}{zs:List Nat}(h:Blk4 w g zs)(i:Nat):w.frozen? ⟨g,i,none⟩=false:=by
 unfold Blk4 at h
 simp only[World.frozen?,h];simp
theorem Blk4.set {w:World}{g:Nat}{zs:List Nat}(h:Blk4 w g zs)(i v:Nat):Blk4 (w.setCell ⟨g,i,none⟩ (.int .u32 ((v:Nat):Int))) g (zs.set i v):=by
 unfold Blk4 at *
 simp only[World.setCell,Array.getElem?_modify,h];simp[qU]
theorem Blk4.below {w w':World}{g:Nat}{zs:List Nat}(h:Blk4 w g zs)(hb:Below w.heap.size w w'):Blk4 w' g zs:=by
 unfold Blk4 at *
 rw[hb.block g (Array.getElem?_eq_some_iff.1 h).1];exact h
theorem Blk4.own {w:World}{g B:Nat}{zs:List Nat}(h:Blk4 w g zs)(hB:B≤g)(hm:zs.length≤maxLen):Own .u32 96 B w (.slice (some ⟨g,0,none⟩) zs.length zs.length) zs:=by
 refine⟨by simp[cls],Or.inr ⟨g,zs.length,(cls .u32 zs).toArray,rfl,hB,h,Nat.le_refl _,hm,by simp[cls],?_⟩⟩;rw[Nat.mul_one,← mK,List.take_of_length_le (Nat.le_refl _)]
theorem Blk4.of_made {w:World}{B g n:Nat}{xs:List Value}{zs:List Nat}(h:w.ownsRow B 96 1 (.slice (some ⟨g,0,none⟩) n n) n xs)(hx:xs=cls .u32 zs):Blk4 w g zs:=by
 obtain⟨h1,h2⟩:=h;rcases h2 with⟨h2,_⟩|⟨g',cap,cur,hv,hg,hh,hn,hc,hs,ht⟩
 · cases h2
 · injection hv with e1 e2 e3
   injection e1 with e1
   injection e1 with e4 e5 e6
   subst e4 e3;unfold Blk4
   rw[hh];rw[Nat.mul_one]at ht hs;rw[List.take_of_length_le (by simpa using Nat.le_of_eq hs)]at ht;congr 2
   rw[← hx,← ht]
set_option maxRecDepth 100000
set_option maxHeartbeats 20000000
open Go.Lib (hid)
theorem iT (n:Nat):(madeCells #[Value.int .u32 0] n).toList=cls .u32 (List.replicate n 0):=by
 apply List.ext_getElem
 · simp[size_madeCells,cls]
 · intro i h1 h2
   simp[madeCells,cls,Nat.mod_one]
theorem vE (b1 o1 c1 b2 o2 c2:Nat)(xs ys:List Nat)(hxp:0<xs.length)(hyp:0<ys.length)(hxl:xs.length≤100000)(hyl:ys.length≤100000)(hx:∀ x∈xs,x<BB)(hy:∀ y∈ys,y<BB)(w:World)(hb1:b1<w.heap.size)(hb2:b2<w.heap.size)
 (hcx:∀ i,i<xs.length→w.cell? ⟨b1,o1+i,none⟩=some (.int .u32 ((xs.getD i 0:Nat):Int))) (hcy:∀ i,i<ys.length→w.cell? ⟨b2,o2+i,none⟩=some (.int .u32 ((ys.getD i 0:Nat):Int))) :
 Calls Tryz.prog 80 #[.slice (some ⟨b1,o1,none⟩) xs.length c1,.slice (some ⟨b2,o2,none⟩) ys.length c2] w fun e w'=>∃ v,e=.returned v∧Own .u32 96 w.heap.size w' v (aa (aj xs*aj ys))∧Below w.heap.size w w':=by
 obtain⟨i0,hi,hz0,hz1,hz2⟩:=info_parts Tryz.info96;obtain ⟨HX,HY,HCX,HCY⟩:=aP hx hy hcx hcy;have d1:((xs.length:Int)==0)=false:=beq_eq_false_iff_ne.2 (by omega);have d2:((ys.length:Int)==0)=false:=beq_eq_false_iff_ne.2 (by omega);clear hx hy hcx hcy;go_enter func80,ntmps80
 go_wp2_with (at_make;refine wpList_make_full _ rfl _ _ 57 rfl w.heap.size 96 i0 (.int .u32 0) 1 underlying57 hi hz0 hz1 _ _ _ _ (xs.length+ys.length) rfl rfl (by omega) (by omega) ?b2 ?b3 (Nat.le_refl _) ?_)
 case b2=>rw[hz2];omega
 case b3=>unfold maxLen;omega
 intro w0 hown0 hgrow0;have u6:=hid (show Blk4 w0 w.heap.size (List.replicate (xs.length+ys.length) 0) from Blk4.of_made hown0 (iT _));have HN0:=hid ((Below.refl w.heap.size w).grown hgrow0 (Nat.le_refl _) (fun k h=>by cases h));clear hown0 hgrow0;go_wp2;go_loopw [6,7,8,9] (fun ii _ _ _ wr=>∃ (i:Nat) (os:List Nat),i≤xs.length∧ii=.int .i64 i∧Hid (TI xs ys os i)∧Hid (Blk4 wr w.heap.size os)∧Hid (Below w.heap.size w wr)) (fun ii _ _ _ _=>xs.length-(intOf ii).toNat)
 case atStart=>exact⟨0,_,Nat.zero_le _,rfl,TI.start xs ys,u6,HN0⟩
 case round =>
  obtain⟨i,os,hi',rfl,hT,hB,hn⟩:=hrel;by_cases hlt:i<xs.length
  · have HR:=hid (hT.out.row hlt HX.out HY.out)
    have i1:(i:Int)<(xs.length:Int):=by omega
    clear hT;go_wp2;obtain⟨wo,rfl⟩:∃ wo:World,wo=wr:=⟨_,rfl⟩;go_loopw [7,8,9] (fun cc kk _ wr=>∃ (k c:Nat) (os:List Nat),k≤ys.length∧kk=.int .i64 k∧cc=.int .u64 (c:Int)∧Hid (TR xs ys os i k c)∧Hid (Blk4 wr w.heap.size os)∧Hid (Below w.heap.size w wr)) (fun _ kk _ _=>ys.length-(intOf kk).toNat)
    case atStart=>exact⟨0,0,os,Nat.zero_le _,rfl,rfl,HR,hB,hn⟩
    case round =>
        clear HR hB hn;obtain⟨k,c,os,hk',rfl,rfl,hR,hB,hn⟩:=hrel;have hol:=hR.out.1;have hcB:=hR.out.2.2.1;rw[aH]at hcB;have hc9:(c:Int)≤999999999:=by omega
        by_cases hkt:k<ys.length
        · have hst:=hR.out.step hlt hkt HX.out HY.out
          have hbd:=TR.bound (hR.out.2.1 _ (aX (xs:=os) (i:=i+k) (by omega))) (HX.out _ (aX hlt)) (HY.out _ (aX hkt)) hR.out.2.2.1;have hoB:=hR.out.2.1 _ (aX (xs:=os) (i:=i+k) (by omega));have hxB:=HX.out _ (aX hlt);have hyB:=HY.out _ (aX hkt);have hco:=hB.out.cell (i:=i+k) (by omega);have hcx:=(hn.out.cell (p:=⟨b1,o1+i,none⟩) hb1).trans (HCX.out i hlt);have hcy:=(hn.out.cell (p:=⟨b2,o2+k,none⟩) hb2).trans (HCY.out k hkt);have hset:=hB.out.set (i+k) ((os.getD (i+k) 0+xs.getD i 0*ys.getD k 0+c)%BB);have hfr:=hB.out.free (i+k);have j1:(k:Int)<(ys.length:Int):=by omega
          have j2:(i:Int)+(k:Int)<(xs.length:Int)+(ys.length:Int):=by omega
          generalize os.getD (i+k) 0=o at *;generalize xs.getD i 0=x at *;generalize ys.getD k 0=y at *;obtain⟨p,hp⟩:∃ p:Nat,p=x*y:=⟨_,rfl⟩;have e1:(x:Int)*(y:Int)=(p:Int):=by rw[hp];exact(Int.natCast_mul _ _).symm
          rw[← hp]at hbd hst hset;obtain⟨lo,hlo⟩:∃ lo:Nat,lo=(o+p+c)%BB:=⟨_,rfl⟩;obtain⟨q,hq⟩:∃ q:Nat,q=(o+p+c) / BB:=⟨_,rfl⟩;rw[← hlo,← hq]at hst;rw[← hlo]at hset;rw[aH]at hoB hxB hyB;have hp9:(p:Int)≤999999998000000001:=by omega
          have ho9:(o:Int)≤999999999:=by omega
          have w1:IntKind.u64.wrap (p:Int)=(p:Int):=IntWalk.u64_in _ (by omega);have hmod:((o:Int)+(p:Int)+(c:Int))%1000000000=(lo:Int):=by rw[hlo,aH];omega
          have hdiv:((o:Int)+(p:Int)+(c:Int)) / 1000000000=(q:Int):=by rw[hq,aH];omega
          have hlo9:(lo:Int)≤999999999:=by rw[aH]at hlo;omega
          have hx9:(x:Int)≤999999999:=by omega
          have hy9:(y:Int)≤999999999:=by omega
          have HST:=hid hst;have HSET:=hid (fun nq=>(show Blk4 ((wr.drewN nq).setCell ⟨w.heap.size,i+k,none⟩ (.int .u32 (lo:Int))) w.heap.size (os.set (i+k) lo) from hset));have HNN:=hid (fun nq=>(below_drewN' hn.out nq).setCell (p:=⟨w.heap.size,i+k,none⟩) (Nat.le_refl _) (.int .u32 (lo:Int)));have hco':∀ nq,(wr.drewN nq).cell? ⟨w.heap.size,i+k,none⟩=some (.int .u32 (o:Int)):=fun _=>hco;have hfr':∀ nq,(wr.drewN nq).frozen? ⟨w.heap.size,i+k,none⟩=false:=fun _=>hfr;clear hst hset hbd hlo hq hp hoB hxB hyB hcB hR hB hn;go_wp2;go_quiet (fail)
          have hco2:=hco' nq;have hfr2:=hfr' nq;obtain ⟨HSET2,HNN2⟩:=aD (HSET.out nq) (HNN.out nq);clear hco hfr hcx hcy hco' hfr' HSET HNN;generalize wr.drewN nq=w2 at *;go_wp2;go_roundw
          case rel=>exact⟨k+1,q,os.set (i+k) lo,by omega,by go_num,cB hdiv,HST,HSET2,HNN2⟩
          case measure=>simp[intOf];omega
        · obtain rfl:k=ys.length:=by omega
          have hnx:=hR.out.next hlt;have hset:=hB.out.set (i+ys.length) c;have hco:=hB.out.cell (i:=i+ys.length) (by omega);have hfr:=hB.out.free (i+ys.length);obtain ⟨HNX,HSET⟩:=aD hnx hset;have HN2:=hid (hn.out.setCell (p:=⟨w.heap.size,i+ys.length,none⟩) (Nat.le_refl _) (.int .u32 (c:Int)));have j2:(i:Int)+(ys.length:Int)<(xs.length:Int)+(ys.length:Int):=by omega
          clear hnx hset hR hB hn hcB;generalize os.getD (i+ys.length) 0=o at *;go_wp2;go_roundw
          case rel=>exact⟨i+1,os.set (i+ys.length) c,by omega,by go_num,HNX,HSET,HN2⟩
          case measure=>simp[intOf];omega
  · obtain rfl:i=xs.length:=by omega
    have hv:=hT.out.done;have hol:=hT.out.1;have hown:=hB.out.own (B:=w.heap.size) (Nat.le_refl _) (by unfold maxLen;omega);rw[hol]at hown;have htr:=gM 96 w.heap.size _ os hT.out.2.1 wr hown;rw[hv]at htr;have HTR:=hid htr;clear hv hol hown htr hT hB;go_wp2_with fail
    refine HTR.out.mono ?_;rintro e w2 ⟨v',rfl,hown,rfl⟩;go_wp2;go_ret
    exact⟨v',rfl,hown,hn.out⟩
end Go.Proofs.YthbdjinlcgnebaaGreatDoor
namespace Go.Gb
theorem z2d {Yt Z V r P t c B:Nat}(hZ:Z<P)(hr:r<P)(hs:Yt+V=Z+P*c)(hY:Yt+P*t+V=r+P*B):c+t=B:=by
 have h:Z+P*(c+t)=r+P*B:=by rw[Nat.mul_add];omega
 have hP:0<P:=by omega
 have h1:=congrArg (· / P) h;simp only[Nat.add_mul_div_left _ _ hP,Nat.div_eq_of_lt hZ,Nat.div_eq_of_lt hr,Nat.zero_add]at h1;exact h1
end Go.Gb
namespace Go.Proofs.YthbdjinlcgnebaaGreatDoor
open Go.RowKit Go.Gb
def Row4 (w:World) (g cap:Nat) (zs:List Nat):Prop:=∃ cur:Array Value,w.heap[g]? = some (.cells cur 96 (0,0))∧cur.size=cap∧zs.length≤cap∧cur.toList.take zs.length=cls .u32 zs
theorem Row4.lt {w:World}{g cap:Nat}{zs:List Nat}(h:Row4 w g cap zs):g<w.heap.size:=by
 obtain⟨cur,h1,_⟩:=h;exact(Array.getElem?_eq_some_iff.1 h1).1
theorem Row4.le {w:World}{g cap:Nat}{zs:List Nat}(h:Row4 w g cap zs):zs.length≤cap:=by
 obtain⟨cur,_,_,h3,_⟩:=h;exact h3
theorem Row4.cell {w:World}{g cap:Nat}{zs:List Nat}(h:Row4 w g cap zs){i:Nat}(hi:i<zs.length):w.cell? ⟨g,i,none⟩=some (.int .u32 ((zs.getD i 0:Nat):Int)):=by
 obtain⟨cur,h1,h2,h3,h4⟩:=h;have h5:=jm (k:=.u32) hi;rw[← h4,List.getElem?_take,if_pos hi]at h5;simp only[World.cell?,h1];simpa using h5
theorem Row4.free {w:World}{g cap:Nat}{zs:List Nat}(h:Row4 w g cap zs)(i:Nat):w.frozen? ⟨g,i,none⟩=false:=by
 obtain⟨cur,h1,h2,h3,h4⟩:=h;simp only[World.frozen?,h1];simp
theorem Row4.set {w:World}{g cap:Nat}{zs:List Nat}(h:Row4 w g cap zs)(i v:Nat):Row4 (w.setCell ⟨g,i,none⟩ (.int .u32 ((v:Nat):Int))) g cap (zs.set i v):=by
 obtain⟨cur,h1,h2,h3,h4⟩:=h;refine⟨cur.setIfInBounds i (.int .u32 (v:Int)),?_,by simp[h2],by simpa using h3,?_⟩
 · simp only[World.setCell,Array.getElem?_modify,h1]
   simp
 · rw[List.length_set,qU,← h4,Array.toList_setIfInBounds,List.take_set]
theorem Row4.aside {w:World}{g cap k i:Nat}{zs:List Nat}{v:Value}(h:Row4 w g cap zs)(hne:g≠k):Row4 (w.setCell ⟨k,i,none⟩ v) g cap zs:=by
 obtain⟨cur,h1,h2,h3,h4⟩:=h;exact⟨cur,by rw[Below.heap_setCell _ _ _ _ hne];exact h1,h2,h3,h4⟩
theorem Row4.below {w w':World}{g cap:Nat}{zs:List Nat}(h:Row4 w g cap zs)(hb:Below w.heap.size w w'):Row4 w' g cap zs:=by
 obtain⟨cur,h1,h2,h3,h4⟩:=h;exact⟨cur,by rw[hb.block g (Array.getElem?_eq_some_iff.1 h1).1];exact h1,h2,h3,h4⟩
theorem Row4.drewN {w:World}{g cap:Nat}{zs:List Nat}(h:Row4 w g cap zs)(n:Nat):Row4 (w.drewN n) g cap zs:=h
theorem Row4.take {w:World}{g cap:Nat}{zs:List Nat}(h:Row4 w g cap zs)(m:Nat)(hm:m≤zs.length):Row4 w g cap (zs.take m):=by
 obtain⟨cur,h1,h2,h3,h4⟩:=h;refine⟨cur,h1,h2,by simp;omega,?_⟩;rw[mK,← h4,List.take_take,List.length_take,Nat.min_eq_left hm]
theorem Row4.own {w:World}{g cap B:Nat}{zs:List Nat}(h:Row4 w g cap zs)(hB:B≤g)(hm:cap≤maxLen):Own .u32 96 B w (.slice (some ⟨g,0,none⟩) zs.length cap) zs:=by
 obtain⟨cur,h1,h2,h3,h4⟩:=h;refine⟨by simp[cls],Or.inr ⟨g,cap,cur,rfl,hB,h1,h3,hm,by simp[h2],?_⟩⟩;rw[Nat.mul_one];exact h4
theorem Row4.of_own {w:World}{B:Nat}{v:Value}{zs:List Nat}(h:Own .u32 96 B w v zs)(hp:0<zs.length):∃ g cap,v=.slice (some ⟨g,0,none⟩) zs.length cap∧B≤g∧cap≤maxLen∧Row4 w g cap zs:=by
 obtain⟨h1,h2⟩:=h;rcases h2 with⟨h2,h3⟩|⟨g,cap,cur,hv,hg,hh,hn,hc,hs,ht⟩
 · omega
 · rw[Nat.mul_one]at hs ht
   exact⟨g,cap,hv,hg,hc,cur,hh,hs,hn,ht⟩
set_option maxRecDepth 100000
set_option maxHeartbeats 20000000
open Go.Lib (hid)
theorem Blk4.alloc {w:World}(zs:List Nat)(cs:Array Value)(h:cs=(cls .u32 zs).toArray):Blk4 (w.alloc (.cells cs 96)) w.heap.size zs:=by
 unfold Blk4
 rw[heap_alloc_new,h]
theorem rU (zs:List Nat)(hB:∀ z∈zs,z<BB)(hl:zs.length≤10)(cs:Array Value)(h:cs=(cls .u32 zs).toArray)(n:Nat)(hn:n=zs.length)(w:World) :
 Calls Tryz.prog 84 #[.slice (some ⟨w.heap.size,0,none⟩) n n] (w.alloc (.cells cs 96)) fun e w'=>∃ v',e=.returned v'∧Own .u32 96 w.heap.size w' v' (aa (aj zs))∧w.alloc (.cells cs 96)=w':=by
 subst hn;exact(gM 96 w.heap.size _ zs hB _ ((Blk4.alloc zs cs h).own (Nat.le_refl _) (by unfold maxLen;omega))).mono fun e w' ⟨v',h1,h2,h3⟩=>⟨v',h1,h3▸h2,h3⟩
theorem vF (n:Nat)(hn:n<4294967296)(w:World) :
 Calls Tryz.prog 65 #[.int .u32 (n:Int)] w fun e w'=>∃ v,e=.returned v∧Own .u32 96 w.heap.size w' v (aa n)∧Below w.heap.size w w':=by
 obtain⟨lo,hlo⟩:∃ lo,lo=n%BB:=⟨_,rfl⟩;obtain⟨hi,hhi⟩:∃ hi,hi=n / BB:=⟨_,rfl⟩;have e1:(n:Int)%1000000000=(lo:Int):=by rw[hlo,aH];omega
 have e2:(n:Int) / 1000000000=(hi:Int):=by rw[hhi,aH];omega
 have htr:=rU [lo,hi] (by intro z hz;simp at hz;rcases hz with rfl|rfl;· rw[hlo];exact Nat.mod_lt _ bL
                          · rw[hhi,Nat.div_lt_iff_lt_mul bL,aH];omega) (by simp) #[.int .u32 (lo:Int),.int .u32 (hi:Int)] (by simp[cls]) 2 rfl w
 rw[show aj [lo,hi]=n by simp only[aj,Nat.mul_zero,Nat.add_zero];rw[hlo,hhi];exact Nat.mod_add_div _ _]at htr;have HTR:=hid htr;have k1:(n:Int)≤4294967295:=by omega
 have k2:(lo:Int)≤999999999:=by rw[aH]at hlo;omega
 have k3:(hi:Int)≤4:=by rw[aH]at hhi;omega
 clear htr hlo hhi hn;go_enter func65,ntmps65
 go_wp2_with fail
 refine HTR.out.mono ?_;rintro e w2 ⟨v',rfl,hown,rfl⟩;go_wp2;go_ret
 exact⟨v',rfl,hown,(Below.refl _ _).alloc (Nat.le_refl _) _⟩
theorem z5f (n:Nat)(hn:n<18446744073709551616)(w:World) :
 Calls Tryz.prog 86 #[.int .u64 (n:Int)] w fun e w'=>∃ v,e=.returned v∧Own .u32 96 w.heap.size w' v (aa n)∧Below w.heap.size w w':=by
 obtain⟨a,ha⟩:∃ a,a=n%BB:=⟨_,rfl⟩;obtain⟨q,hq⟩:∃ q,q=n / BB:=⟨_,rfl⟩;obtain⟨b,hb⟩:∃ b,b=q%BB:=⟨_,rfl⟩;obtain⟨c,hc⟩:∃ c,c=q / BB:=⟨_,rfl⟩;have e1:(n:Int)%1000000000=(a:Int):=by rw[ha,aH];omega
 have e2:(n:Int) / 1000000000=(q:Int):=by rw[hq,aH];omega
 have e3:(q:Int)%1000000000=(b:Int):=by rw[hb,aH];omega
 have e4:(q:Int) / 1000000000=(c:Int):=by rw[hc,aH];omega
 have k2:(a:Int)≤999999999:=by rw[aH]at ha;omega
 have k3:(b:Int)≤999999999:=by rw[aH]at hb;omega
 have k5:(q:Int)≤18446744073:=by rw[aH]at hq;omega
 have k4:(c:Int)≤18:=by rw[aH]at hc;omega
 have htr:=rU [a,b,c] (by intro z hz;simp at hz;rw[aH];rcases hz with rfl|rfl|rfl<;>omega) (by simp) #[.int .u32 (a:Int),.int .u32 (b:Int),.int .u32 (c:Int)] (by simp[cls]) 3 rfl w
 rw[show aj [a,b,c]=n by
  simp only[aj,Nat.mul_zero,Nat.add_zero]
  rw[hb,hc,Nat.mod_add_div,ha,hq,Nat.mod_add_div]]at htr
 have HTR:=hid htr;have k1:(n:Int)≤18446744073709551615:=by omega
 clear htr ha hq hb hc hn;go_enter func86,ntmps86
 go_wp2_with fail
 refine HTR.out.mono ?_;rintro e w2 ⟨v',rfl,hown,rfl⟩;go_wp2;go_ret
 exact⟨v',rfl,hown,(Below.refl _ _).alloc (Nat.le_refl _) _⟩
theorem z4y (v:Value)(a:Nat)(hl:(aa a).length≤2)(w:World)(h:Rd .u32 w v (aa a)) :
 Calls Tryz.prog 85 #[v] w fun e w'=>e=.returned (.int .u64 (a:Int))∧w=w':=by
 obtain⟨p,c,rfl,r⟩:=h.gen;have hv:=aC a;have hB:=aQ a;generalize aa a=xs at *
 match xs,hl with
 | [],_ =>
   have h0:a=0:=by rw[← hv];rfl
   subst h0;clear hv hB r h hl;simp only[List.length_nil];go_enter func85,ntmps85
   go_wp2;refine wp_loop_rounds 1 ?_;rw[rounds_succ];go_wp2;go_ret
   exact⟨rfl,rfl⟩
 | [x],_ =>
   have h0:a=x:=by rw[← hv];simp[aj]
   have hx:=hB x (by simp);rw[aH]at hx;subst h0;obtain⟨b,o,rfl,hb,hc⟩:=r 0 (by simp);simp only[List.getD_cons_zero,Nat.add_zero]at hc;have k1:(a:Int)≤999999999:=by omega
   clear hv hB r h hl hb hx;simp only[List.length_cons,List.length_nil];go_enter func85,ntmps85
   go_wp2;refine wp_loop_rounds 2 ?_;rw[rounds_succ];go_wp2;rw[rounds_succ];go_wp2;go_ret
   exact⟨rfl,rfl⟩
 | [x,y],_ =>
   have hx:=hB x (by simp);have hy:=hB y (by simp);have h0:a=x+1000000000*y:=by rw[← hv];simp only[aj,Nat.mul_zero,Nat.add_zero];rw[aH]
   rw[aH]at hx hy;obtain⟨b,o,rfl,hb,hc⟩:=r 0 (by simp);obtain⟨b',o',hp,hb',hc'⟩:=r 1 (by simp);injection hp with hp
   injection hp with e1 e2 e3
   subst e1 e2;simp only[List.getD_cons_zero,List.getD_cons_succ,Nat.add_zero]at hc hc';have k1:(x:Int)≤999999999:=by omega
   have k2:(y:Int)≤999999999:=by omega
   have H0:=hid h0;clear hv hB r h hl hb hb' hx hy h0;simp only[List.length_cons,List.length_nil];go_enter func85,ntmps85
   go_wp2;refine wp_loop_rounds 3 ?_;rw[rounds_succ];go_wp2;rw[rounds_succ];go_wp2;rw[rounds_succ];go_wp2;go_ret
   exact⟨dI (by have:=H0.out;omega),rfl⟩
 | _ :: _ :: _ :: _,hl=>simp at hl
theorem pg (v1:Value)(a d:Nat)(hd:0<d)(hdB:d<BB)(hl:(aa a).length≤100000)(w:World)(h1:Rd .u32 w v1 (aa a)) :
 Calls Tryz.prog 109 #[v1,.int .u32 (d:Int)] w fun e w'=>∃ v,e=.returned (.tuple #[v,.int .u32 ((a%d:Nat):Int)])∧Own .u32 96 w.heap.size w' v (aa (a / d))∧Below w.heap.size w w':=by
 obtain⟨i0,hi,hz0,hz1,hz2⟩:=info_parts Tryz.info96;obtain⟨p,c,rfl,r1⟩:=h1.gen;have hv:=aC a;have hx:=aQ a;generalize aa a=xs at *;obtain ⟨HX,HV,HR⟩:=ae hx hv r1;have hd1:(1:Int)≤(d:Int):=by omega
 have hd2:(d:Int)≤999999999:=by rw[aH]at hdB;omega
 have hdz:((d:Int)==0)=false:=beq_eq_false_iff_ne.2 (by omega);have HD:=hid hd;clear h1 hx hv r1 hd hdB;go_enter func109,ntmps109
 go_wp2_with (at_make;refine wpList_make_full _ rfl _ _ 57 rfl w.heap.size 96 i0 (.int .u32 0) 1 underlying57 hi hz0 hz1 _ _ _ _ xs.length rfl rfl (by omega) (by omega) ?b2 ?b3 (Nat.le_refl _) ?_)
 case b2=>rw[hz2];omega
 case b3=>unfold maxLen;omega
 intro w0 hown0 hgrow0;have u6:=hid (show Blk4 w0 w.heap.size (List.replicate xs.length 0) from Blk4.of_made hown0 (iT _));have HN0:=hid ((Below.refl w.heap.size w).grown hgrow0 (Nat.le_refl _) (fun k h=>by cases h));clear hown0 hgrow0;go_wp2;go_loopw [7,8] (fun rr ii wr=>∃ (z:Int) (r:Nat) (os:List Nat),-1≤z∧z<xs.length∧ii=.int .i64 z∧rr=.int .u64 (r:Int)∧Hid (rz xs os d (z+1).toNat r)∧Hid (Blk4 wr w.heap.size (List.replicate (z+1).toNat 0++os))∧Hid (Below w.heap.size w wr)) (fun _ ii _=>(intOf ii+1).toNat)
 case atStart=>exact⟨(xs.length:Int)-1,0,[],by omega,by omega,rfl,rfl,by rw[show((xs.length:Int)-1+1).toNat=xs.length by omega];exact rz.start xs HD.out,by rw[show((xs.length:Int)-1+1).toNat=xs.length by omega,List.append_nil];exact u6,HN0⟩
 case round =>
  obtain⟨z,r,os,hz1',hz8,rfl,rfl,hI,hB,hn⟩:=hrel;by_cases hz:0≤z
  · obtain⟨j,rfl⟩:=Int.eq_ofNat_of_zero_le hz
    have hj:j<xs.length:=by omega
    have hI':=hI.out;have hB':=hB.out;rw[show((j:Int)+1).toNat=j+1 by omega]at hI' hB';obtain⟨b1,o1,rfl,hb1,hc1⟩:=HR.out j hj;have hcx:=(hn.out.cell (p:=⟨b1,o1+j,none⟩) hb1).trans hc1;have hxw:=HX.out _ (aX hj);have hst:=hI'.step hj HX.out;have hr:=hI'.2.2.1;rw[iG,List.append_assoc]at hB';have e1:(List.replicate j 0++([0]++os)).getD j 0=0:=by simp[List.getD]
    have hcell:=hB'.cell (i:=j) (by simp);have hfree:=hB'.free j;have hset:=hB'.set j ((r*BB+xs.getD j 0) / d);have e2:(List.replicate j 0++([0]++os)).set j ((r*BB+xs.getD j 0) / d)=List.replicate j 0++((r*BB+xs.getD j 0) / d :: os):=by simp
    rw[e1]at hcell;rw[e2]at hset;have hqB:=nQ hr hxw;have hbel:=hn.out.setCell (p:=⟨w.heap.size,j,none⟩) (Nat.le_refl _) (.int .u32 (((r*BB+xs.getD j 0) / d:Nat):Int));obtain ⟨HS,HI,HBL⟩:=ae hset hst hbel;clear hI' hB' hst e1 e2 hset hbel hI hB hn hb1 hc1;generalize xs.getD j 0=x at *;rw[aH]at hxw;have hr2:r<999999999:=by omega
    obtain⟨q,hq⟩:∃ q,q=(r*BB+x) / d:=⟨_,rfl⟩;obtain⟨m,hm⟩:∃ m,m=(r*BB+x)%d:=⟨_,rfl⟩;rw[← hq]at hqB HS HI HBL;rw[← hm]at HI;have hqI:((r:Int)*1000000000+(x:Int)) / (d:Int)=(q:Int):=by rw[hq,aH];rfl
    have hmI:((r:Int)*1000000000+(x:Int))%(d:Int)=(m:Int):=by rw[hm,aH];rfl
    have k1:(x:Int)≤999999999:=by omega
    have k2:(r:Int)≤999999999:=by omega
    have k3:(q:Int)≤999999999:=by rw[aH]at hqB;omega
    clear hq hm hxw hr hr2 hqB;go_wp2;go_roundw
    case rel=>exact⟨(j:Int)-1,m,q :: os,by omega,by omega,rfl,cB hmI,by rw[show((j:Int)-1+1).toNat=j by omega];exact HI,by rw[show((j:Int)-1+1).toNat=j by omega];exact HS,HBL⟩
    case measure=>simp[intOf]
  · have hz0':(z+1).toNat=0:=by omega
    have hI':=hI.out;have hB':=hB.out;rw[hz0']at hI' hB';obtain⟨g1,g2,g3,g4⟩:=hI';rw[List.drop_zero,HV.out]at g4;rw[List.replicate_zero,List.nil_append]at hB';have hown:=Blk4.own hB' (Nat.le_refl _) (by unfold maxLen;omega);have hq:aj os=a / d:=by rw[g4,Nat.add_comm,Nat.add_mul_div_right _ _ HD.out,Nat.div_eq_of_lt g3,Nat.zero_add]
    have hm:r=a%d:=by rw[g4,Nat.add_comm,Nat.add_mul_mod_self_right,Nat.mod_eq_of_lt g3]
    have htr:=gM 96 w.heap.size _ os g2 wr hown;rw[g1,Nat.sub_zero,hq]at htr;obtain ⟨HTR,HM⟩:=aD htr hm;have k2:(r:Int)≤999999999:=by omega
    clear g1 g2 g3 g4 hB' hown hq htr hz0' hm;go_wp2_with fail
    refine HTR.out.mono ?_;rintro e w2 ⟨v',rfl,hown,rfl⟩;go_wp2;go_ret2
    exact⟨v',lV (by rw[HM.out]),hown,hn.out⟩
open Go.ChangeShapes Go.WideShapes Go.ChangeAt Go.WideMaps Go.WideElems Go.RowKit
theorem z3r:Tryz.prog.globalNamed "garboard/integer.zero" = some 1:=by kernel_rfl
theorem z0e:(Tryz.prog.globals[1]?).map (·.type)=some 142:=by kernel_rfl
def ji:List (String × DataW Unit):=[("math/bits.deBruijn32tab",Rows.laid_math_bits_deBruijn32tab),("math/bits.deBruijn64tab",Rows.laid_math_bits_deBruijn64tab),("internal/strconv.uint64pow10",Rows.laid_internal_strconv_uint64pow10),("strconv.ErrRange",Rows.laid_strconv_ErrRange),("strconv.ErrSyntax",Rows.laid_strconv_ErrSyntax),("garboard/integer.zero",Rows.laid_garboard_integer_zero)]
theorem yf {W:World}(h:laidMetH Tryz.prog ji W):La W:=by
 rw[MakeChecks.laidMetH_plain _ _ _ (by kernel_rfl)]at h;obtain⟨ps,⟨g0,t0,cs0,f0,p0,q0,hg0,ht0,hv0,hd0,⟨g1,t1,cs1,f1,p1,q1,hg1,ht1,hv1,hd1,⟨g2,t2,cs2,f2,p2,q2,hg2,ht2,hv2,hd2,⟨g3,t3,cs3,f3,p3,q3,hg3,ht3,hv3,hd3,⟨g4,t4,cs4,f4,p4,q4,hg4,ht4,hv4,hd4,⟨g5,t5,cs5,f5,p5,q5,hg5,ht5,hv5,hd5,_,_⟩,_⟩,_⟩,_⟩,_⟩,_⟩,_,_⟩:=h;obtain rfl:=Option.some.inj (gTab.symm.trans hg2);obtain rfl:=Option.some.inj (wW.symm.trans ht2);obtain rfl:=Option.some.inj (z3r.symm.trans hg5);obtain rfl:=Option.some.inj (z0e.symm.trans ht5);refine⟨?_,?_⟩
 · unfold Tb Lib.TabIs
   rw[hv2];congr 1
   apply Array.ext'
   rw[Lib.cells_of_tab (k:=.u64) (zs:=Lib.pow10Tab) underlying224 underlying115 xn xq hd2]
 · obtain⟨k0,k1,hu,e0,o0,e1,o1⟩:∃ k0 k1:Field,Tryz.prog.underlying 142=some (.struct #[k0,k1])∧k0.type=3∧k0.offset=0∧k1.type=9∧k1.offset=1:=⟨_,_,underlying142,rfl,rfl,rfl,rfl⟩
   obtain⟨y0,y1,n,hx,hlen,h0,h1⟩:=trod_struct2 hu hd5;rw[e0,o0]at h0;rw[e1,o1]at h1;obtain⟨m,hc0,hy0,_⟩:=DataW.trod_int underlying3 h0;obtain⟨s,hc1,hy1,_⟩:=DataW.trod_string underlying9 h1;subst hy0 hy1;have hc:Tryz.prog.cellsOf 142=2:=by kernel_rfl
   have hci:Tryz.prog.cellsOf 3=1:=by kernel_rfl
   have hcs:Tryz.prog.cellsOf 9=1:=by kernel_rfl
   rw[hc]at hlen;rw[hci]at hc0;rw[hcs]at hc1
   have hd:m=0∧s.data.toList=[48]:=by
    have:=congrArg Prod.fst hx;simpa [Rows.laid_garboard_integer_zero,eq_comm] using this
   obtain⟨rfl,hs⟩:=hd
   have hs':s=⟨#[48]⟩:=by
    cases s with
    | mk d=>exact congrArg ByteArray.mk (Array.ext' hs)
   subst hs'
   have hl:cs5.toList=[.int .i64 0,.string ⟨#[48]⟩]:=by
    match hcs5:cs5.toList,hlen with
    | [a,b],_ =>
      rw[hcs5]at hc0 hc1;simp at hc0 hc1
      rw[hc0,hc1]
   have g0':=World.var?_cell z3r hv5 0;have g1':=World.var?_cell z3r hv5 1;have ha:cs5=#[.int .i64 0,.string ⟨#[48]⟩]:=Array.ext' hl;rw[ha]at g0' g1';have c0:W.cell? ⟨1,0,none⟩=some (.int .i64 0):=by simpa using g0'
   have c1:W.cell? ⟨1,1,none⟩=some (.string ⟨#[48]⟩):=by simpa using g1'
   exact⟨World.block_lt_of_cell? W _ c0,c0,c1⟩
theorem z0q (os:Os)(args:Array Value):laidMetH Tryz.prog ji ((World.doorLaid Tryz.prog 4000 os).forCall (fun _ _=>0) ⟨#[],args,[]⟩).memory:=by
 rw[MakeChecks.laidMetH_plain _ _ _ (by kernel_rfl)];exact laidMet_of_run' 8 (by kernel_rfl) (by kernel_rfl)
end Go.Proofs.YthbdjinlcgnebaaGreatDoor
set_option maxRecDepth 100000
set_option maxHeartbeats 20000000
namespace Go.Proofs.YthbdjinlcgnebaaGreatDoor
open Go.ChangeShapes Go.WideShapes Go.ChangeAt Go.WideMaps Go.WideElems Go.RowKit Go.Gb Go.Joins
open Go.ChangeMaps (open_string shut_string)
theorem qz {H:Type}{enc:TypeId × Value→H}{W:World}{base b0:Nat}{spare:Nat→Bool}{held:Bool}{r:Reach}{v:Value}{d:DataW H}{p:List MemPlace}
 (hv:Value.okWide Tryz.prog W r b0 24 v) (h:DataW.Trod enc Tryz.prog W base spare held 24 v d p) :
 ∃ x y z:ByteArray,v=.agg #[.string x,.string y,.string z]∧d=.agg [.lit (.string x.data.toList),.lit (.string y.data.toList),.lit (.string z.data.toList)]∧p=[]∧x.size≤maxLen∧y.size≤maxLen∧z.size≤maxLen:=by
 obtain⟨c0,c1,c2,y0,y1,y2,m,rfl,rfl,rfl,hy0,hy1,hy2⟩:=open_agg3 underlying24 (by kernel_rfl) (by kernel_rfl) hv h;obtain⟨x,e0,rfl,wx⟩:=DataW.trod_string underlying22 hy0;obtain⟨y,e1,rfl,wy⟩:=DataW.trod_string underlying22 hy1;obtain⟨z,e2,rfl,wz⟩:=DataW.trod_string underlying22 hy2;simp at e0 e1 e2
 subst e0 e1 e2;exact⟨x,y,z,rfl,rfl,rfl,wx,wy,wz⟩
theorem pY {H:Type}{enc:TypeId × Value→H}{W:World}{base:Nat}{spare:Nat→Bool}{held:Bool}{x y z:ByteArray}(hx:x.size≤maxLen)(hy:y.size≤maxLen)(hz:z.size≤maxLen) :
 DataW.Trod enc Tryz.prog W base spare held 24 (.agg #[.string x,.string y,.string z]) (.agg [.lit (.string x.data.toList),.lit (.string y.data.toList),.lit (.string z.data.toList)]) [] :=
 shut_agg3 (y0:=(.lit (.string x.data.toList),[])) (y1:=(.lit (.string y.data.toList),[])) (y2:=(.lit (.string z.data.toList),[])) underlying24 (by kernel_rfl) (by kernel_rfl) ⟨1,by simp[DataW.trod,underlying22,hx]⟩ ⟨1,by simp[DataW.trod,underlying22,hy]⟩ ⟨1,by simp[DataW.trod,underlying22,hz]⟩
