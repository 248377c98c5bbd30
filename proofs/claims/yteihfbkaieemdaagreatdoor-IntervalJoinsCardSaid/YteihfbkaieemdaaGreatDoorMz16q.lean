/- texts -/
import Derived.Test.YteihfbkaieemdaaGreatDoorMz15q
import Derived.Test.YteihfbkaieemdaaGreatDoorMz12q
import Derived.Test.YteihfbkaieemdaaGreatDoorMz14q
import Derived.Lib.SmallJoins
open Go.Proofs.Tryz
namespace Go.Gb
def TI (x y os:List Nat) (i:Nat):Prop:=os.length=x.length+y.length∧(∀ w∈os,w<BB)∧aj os=aj (x.take i)*aj y
def TR (x y os:List Nat) (i k c:Nat):Prop:=os.length=x.length+y.length∧(∀ w∈os,w<BB)∧c<BB∧os.getD (i+y.length) 0=0∧aj os+BB^(i+k)*c=aj (x.take i)*aj y+BB^i*(x.getD i 0*aj (y.take k))
theorem z3n {os:List Nat}{m v:Nat}(h:∀ w∈os,w<BB)(hv:v<BB):∀ w∈os.set m v,w<BB:=by
 intro w hw;rcases List.mem_or_eq_of_mem_set hw with hw|hw
 · exact h w hw
 · rw[hw];exact hv
theorem z0q {os:List Nat}{m:Nat}(h:aj os<BB^m):os.getD m 0=0:=by
 by_cases hm:m<os.length
 · have h1:=dE os m (by omega)
   rw[gp hm]at h1;rcases Nat.eq_zero_or_pos (os.getD m 0) with h2|h2
   · exact h2
   · have:BB^m*1≤BB^m*(os.getD m 0+BB*aj (os.drop (m+1))):=Nat.mul_le_mul_left _ (by omega)
     omega
 · exact kD (by omega)
theorem TI.start (x y:List Nat):TI x y (List.replicate (x.length+y.length) 0) 0:=by
 refine⟨by simp,fun w hw=>by rw[(List.mem_replicate.1 hw).2];exact bP,?_⟩;have:=fB [] (x.length+y.length);simpa [aj] using this
theorem TI.row {x y os:List Nat}{i:Nat}(h:TI x y os i)(hi:i<x.length)(hx:∀ w∈x,w<BB)(hy:∀ w∈y,w<BB):TR x y os i 0 0:=by
 obtain⟨h1,h2,h3⟩:=h;refine⟨h1,h2,bP,z0q ?_,by rw[h3,Nat.mul_zero,Nat.add_zero,List.take_zero];simp[aj]⟩;have l1:=bX (n:=i) (xs:=x.take i) (fun w hw=>hx w (List.mem_of_mem_take hw)) (by simp;omega);have l2:=eB y hy;rw[h3,Nat.pow_add];exact Nat.mul_lt_mul_of_lt_of_le l1 (Nat.le_of_lt l2) (Nat.pow_pos bP)
theorem TR.bound {o a b c:Nat}(ho:o<BB)(ha:a<BB)(hb:b<BB)(hc:c<BB):a*b≤999999998000000001∧o+a*b+c<BB*BB:=by
 have h:=qo ha hb;refine⟨h,?_⟩;rw[aG]at *;omega
theorem TR.step {x y os:List Nat}{i k c:Nat}(h:TR x y os i k c)(hi:i<x.length)(hk:k<y.length)(hx:∀ w∈x,w<BB)(hy:∀ w∈y,w<BB) :
 TR x y (os.set (i+k) ((os.getD (i+k) 0+x.getD i 0*y.getD k 0+c)%BB)) i (k+1) ((os.getD (i+k) 0+x.getD i 0*y.getD k 0+c) / BB):=by
 obtain⟨h1,h2,h3,h4,h5⟩:=h;have hb:=(TR.bound (h2 _ (bf (i:=i+k) (by omega))) (hx _ (bf hi)) (hy _ (bf hk)) h3).2;have hm:=Nat.div_add_mod (os.getD (i+k) 0+x.getD i 0*y.getD k 0+c) BB;have hs:=qm (xs:=os) (i:=i+k) (v:=(os.getD (i+k) 0+x.getD i 0*y.getD k 0+c)%BB) (by omega);refine⟨by simp[h1],z3n h2 (Nat.mod_lt _ bP),(Nat.div_lt_iff_lt_mul bP).2 hb,?_,?_⟩
 · rw[kZ,if_neg (by omega)];exact h4
 · rw[aJ y k,Nat.mul_add (x.getD i 0),Nat.mul_add (BB^i)]
   rw[show BB^i*(x.getD i 0*(BB^k*y.getD k 0))=BB^(i+k)*(x.getD i 0*y.getD k 0) by rw[Nat.pow_add,Nat.mul_left_comm (x.getD i 0),Nat.mul_assoc]];rw[← Nat.add_assoc i k 1,Nat.pow_succ,Nat.mul_assoc];generalize (os.getD (i+k) 0+x.getD i 0*y.getD k 0+c)%BB=lo at *;generalize (os.getD (i+k) 0+x.getD i 0*y.getD k 0+c) / BB=q at *;have e:=congrArg (BB^(i+k) * ·) hm;simp only[Nat.mul_add]at e;omega
theorem TR.next {x y os:List Nat}{i c:Nat}(h:TR x y os i y.length c)(hi:i<x.length):TI x y (os.set (i+y.length) c) (i+1):=by
 obtain⟨h1,h2,h3,h4,h5⟩:=h;have hs:=qm (xs:=os) (i:=i+y.length) (v:=c) (by omega);rw[h4,Nat.mul_zero,Nat.add_zero]at hs;refine⟨by simp[h1],z3n h2 h3,?_⟩;rw[hs,h5,List.take_of_length_le (Nat.le_refl _),aJ x i,Nat.add_mul,Nat.mul_assoc]
theorem TI.done {x y os:List Nat}(h:TI x y os x.length):aj os=aj x*aj y:=by rw[h.2.2,List.take_of_length_le (Nat.le_refl _)]
end Go.Gb
namespace Go.Proofs.YteihfbkaieemdaaGreatDoor
open Go.RowKit Go.Gb
def Blk4 (w:World) (g:Nat) (zs:List Nat):Prop:=w.heap[g]? = some (.cells (cls .u32 zs).toArray 95 (0,0))
theorem Blk4.cell {w:World}{g:Nat}{zs:List Nat}(h:Blk4 w g zs){i:Nat}(hi:i<zs.length):w.cell? ⟨g,i,none⟩=some (.int .u32 ((zs.getD i 0:Nat):Int)):=by
 unfold Blk4 at h
 have:=jI (k:=.u32) hi;simp only[World.cell?,h];simpa using this
theorem Blk4.free {w:World}{g:Nat}{zs:List Nat}(h:Blk4 w g zs)(i:Nat):w.frozen? ⟨g,i,none⟩=false:=by
 unfold Blk4 at h
 simp only[World.frozen?,h];simp
theorem Blk4.set {w:World}{g:Nat}{zs:List Nat}(h:Blk4 w g zs)(i v:Nat):Blk4 (w.setCell ⟨g,i,none⟩ (.int .u32 ((v:Nat):Int))) g (zs.set i v):=by
 unfold Blk4 at *
 simp only[World.setCell,Array.getElem?_modify,h];simp[rH]
theorem Blk4.below {w w':World}{g:Nat}{zs:List Nat}(h:Blk4 w g zs)(hb:Below w.heap.size w w'):Blk4 w' g zs:=by
 unfold Blk4 at *
 rw[hb.block g (Array.getElem?_eq_some_iff.1 h).1];exact h
theorem Blk4.own {w:World}{g B:Nat}{zs:List Nat}(h:Blk4 w g zs)(hB:B≤g)(hm:zs.length≤maxLen):Own .u32 95 B w (.slice (some ⟨g,0,none⟩) zs.length zs.length) zs:=by
 refine⟨by simp[cls],Or.inr ⟨g,zs.length,(cls .u32 zs).toArray,rfl,hB,h,Nat.le_refl _,hm,by simp[cls],?_⟩⟩;rw[Nat.mul_one,← mW,List.take_of_length_le (Nat.le_refl _)]
theorem Blk4.of_made {w:World}{B g n:Nat}{xs:List Value}{zs:List Nat}(h:w.ownsRow B 95 1 (.slice (some ⟨g,0,none⟩) n n) n xs)(hx:xs=cls .u32 zs):Blk4 w g zs:=by
 obtain⟨h1,h2⟩:=h;rcases h2 with⟨h2,_⟩|⟨g',cap,cur,hv,hg,hh,hn,hc,hs,ht⟩
 · cases h2
 · injection hv with e1 e2 e3
   injection e1 with e1
   injection e1 with e4 e5 e6
   subst e4 e3;unfold Blk4
   rw[hh];rw[Nat.mul_one]at ht hs;rw[List.take_of_length_le (by simpa using Nat.le_of_eq hs)]at ht;congr 2
   rw[← hx,← ht]
set_option maxRecDepth 100000
set_option maxHeartbeats 20000000
open Go.Lib (hid)
theorem jh (n:Nat):(madeCells #[Value.int .u32 0] n).toList=cls .u32 (List.replicate n 0):=by
 apply List.ext_getElem
 · simp[size_madeCells,cls]
 · intro i h1 h2
   simp[madeCells,cls,Nat.mod_one]
theorem wy (b1 o1 c1 b2 o2 c2:Nat)(xs ys:List Nat)(hxp:0<xs.length)(hyp:0<ys.length)(hxl:xs.length≤100000)(hyl:ys.length≤100000)(hx:∀ x∈xs,x<BB)(hy:∀ y∈ys,y<BB)(w:World)(hb1:b1<w.heap.size)(hb2:b2<w.heap.size)
 (hcx:∀ i,i<xs.length→w.cell? ⟨b1,o1+i,none⟩=some (.int .u32 ((xs.getD i 0:Nat):Int))) (hcy:∀ i,i<ys.length→w.cell? ⟨b2,o2+i,none⟩=some (.int .u32 ((ys.getD i 0:Nat):Int))) :
 Calls Tryz.prog 74 #[.slice (some ⟨b1,o1,none⟩) xs.length c1,.slice (some ⟨b2,o2,none⟩) ys.length c2] w fun e w'=>∃ v,e=.returned v∧Own .u32 95 w.heap.size w' v (ae (aj xs*aj ys))∧Below w.heap.size w w':=by
 obtain⟨i0,hi,hz0,hz1,hz2⟩:=info_parts Tryz.info95;obtain ⟨HX,HY,HCX,HCY⟩:=aL hx hy hcx hcy;have d1:((xs.length:Int)==0)=false:=beq_eq_false_iff_ne.2 (by omega);have d2:((ys.length:Int)==0)=false:=beq_eq_false_iff_ne.2 (by omega);clear hx hy hcx hcy;go_enter func74,ntmps74
 go_wp2_with (at_make;refine wpList_make_full _ rfl _ _ 50 rfl w.heap.size 95 i0 (.int .u32 0) 1 underlying50 hi hz0 hz1 _ _ _ _ (xs.length+ys.length) rfl rfl (by omega) (by omega) ?b2 ?b3 (Nat.le_refl _) ?_)
 case b2=>rw[hz2];omega
 case b3=>unfold maxLen;omega
 intro w0 hown0 hgrow0;have u6:=hid (show Blk4 w0 w.heap.size (List.replicate (xs.length+ys.length) 0) from Blk4.of_made hown0 (jh _));have HN0:=hid ((Below.refl w.heap.size w).grown hgrow0 (Nat.le_refl _) (fun k h=>by cases h));clear hown0 hgrow0;go_wp2;go_loopw [6,7,8,9] (fun ii _ _ _ wr=>∃ (i:Nat) (os:List Nat),i≤xs.length∧ii=.int .i64 i∧Hid (TI xs ys os i)∧Hid (Blk4 wr w.heap.size os)∧Hid (Below w.heap.size w wr)) (fun ii _ _ _ _=>xs.length-(intOf ii).toNat)
 case atStart=>exact⟨0,_,Nat.zero_le _,rfl,TI.start xs ys,u6,HN0⟩
 case round =>
  obtain⟨i,os,hi',rfl,hT,hB,hn⟩:=hrel;by_cases hlt:i<xs.length
  · have HR:=hid (hT.o.row hlt HX.o HY.o)
    have i1:(i:Int)<(xs.length:Int):=by omega
    clear hT;go_wp2;obtain⟨wo,rfl⟩:∃ wo:World,wo=wr:=⟨_,rfl⟩;go_loopw [7,8,9] (fun cc kk _ wr=>∃ (k c:Nat) (os:List Nat),k≤ys.length∧kk=.int .i64 k∧cc=.int .u64 (c:Int)∧Hid (TR xs ys os i k c)∧Hid (Blk4 wr w.heap.size os)∧Hid (Below w.heap.size w wr)) (fun _ kk _ _=>ys.length-(intOf kk).toNat)
    case atStart=>exact⟨0,0,os,Nat.zero_le _,rfl,rfl,HR,hB,hn⟩
    case round =>
        clear HR hB hn;obtain⟨k,c,os,hk',rfl,rfl,hR,hB,hn⟩:=hrel;have hol:=hR.o.1;have hcB:=hR.o.2.2.1;rw[aG]at hcB;have hc9:(c:Int)≤999999999:=by omega
        by_cases hkt:k<ys.length
        · have hst:=hR.o.step hlt hkt HX.o HY.o
          have hbd:=TR.bound (hR.o.2.1 _ (bf (xs:=os) (i:=i+k) (by omega))) (HX.o _ (bf hlt)) (HY.o _ (bf hkt)) hR.o.2.2.1;have hoB:=hR.o.2.1 _ (bf (xs:=os) (i:=i+k) (by omega));have hxB:=HX.o _ (bf hlt);have hyB:=HY.o _ (bf hkt);have hco:=hB.o.cell (i:=i+k) (by omega);have hcx:=(hn.o.cell (p:=⟨b1,o1+i,none⟩) hb1).trans (HCX.o i hlt);have hcy:=(hn.o.cell (p:=⟨b2,o2+k,none⟩) hb2).trans (HCY.o k hkt);have hset:=hB.o.set (i+k) ((os.getD (i+k) 0+xs.getD i 0*ys.getD k 0+c)%BB);have hfr:=hB.o.free (i+k);have j1:(k:Int)<(ys.length:Int):=by omega
          have j2:(i:Int)+(k:Int)<(xs.length:Int)+(ys.length:Int):=by omega
          generalize os.getD (i+k) 0=o at *;generalize xs.getD i 0=x at *;generalize ys.getD k 0=y at *;obtain⟨p,hp⟩:∃ p:Nat,p=x*y:=⟨_,rfl⟩;have e1:(x:Int)*(y:Int)=(p:Int):=by rw[hp];exact(Int.natCast_mul _ _).symm
          rw[← hp]at hbd hst hset;obtain⟨lo,hlo⟩:∃ lo:Nat,lo=(o+p+c)%BB:=⟨_,rfl⟩;obtain⟨q,hq⟩:∃ q:Nat,q=(o+p+c) / BB:=⟨_,rfl⟩;rw[← hlo,← hq]at hst;rw[← hlo]at hset;rw[aG]at hoB hxB hyB;have hp9:(p:Int)≤999999998000000001:=by omega
          have ho9:(o:Int)≤999999999:=by omega
          have w1:IntKind.u64.wrap (p:Int)=(p:Int):=IntWalk.u64_in _ (by omega);have hmod:((o:Int)+(p:Int)+(c:Int))%1000000000=(lo:Int):=by rw[hlo,aG];omega
          have hdiv:((o:Int)+(p:Int)+(c:Int)) / 1000000000=(q:Int):=by rw[hq,aG];omega
          have hlo9:(lo:Int)≤999999999:=by rw[aG]at hlo;omega
          have hx9:(x:Int)≤999999999:=by omega
          have hy9:(y:Int)≤999999999:=by omega
          have HST:=hid hst;have HSET:=hid (fun nq=>(show Blk4 ((wr.drewN nq).setCell ⟨w.heap.size,i+k,none⟩ (.int .u32 (lo:Int))) w.heap.size (os.set (i+k) lo) from hset));have HNN:=hid (fun nq=>(below_drewN' hn.o nq).setCell (p:=⟨w.heap.size,i+k,none⟩) (Nat.le_refl _) (.int .u32 (lo:Int)));have hco':∀ nq,(wr.drewN nq).cell? ⟨w.heap.size,i+k,none⟩=some (.int .u32 (o:Int)):=fun _=>hco;have hfr':∀ nq,(wr.drewN nq).frozen? ⟨w.heap.size,i+k,none⟩=false:=fun _=>hfr;clear hst hset hbd hlo hq hp hoB hxB hyB hcB hR hB hn;go_wp2;go_quiet (fail)
          have hco2:=hco' nq;have hfr2:=hfr' nq;obtain ⟨HSET2,HNN2⟩:=aB (HSET.o nq) (HNN.o nq);clear hco hfr hcx hcy hco' hfr' HSET HNN;generalize wr.drewN nq=w2 at *;go_wp2;go_roundw
          case rel=>exact⟨k+1,q,os.set (i+k) lo,by omega,by go_num,dA hdiv,HST,HSET2,HNN2⟩
          case measure=>simp[intOf];omega
        · obtain rfl:k=ys.length:=by omega
          have hnx:=hR.o.next hlt;have hset:=hB.o.set (i+ys.length) c;have hco:=hB.o.cell (i:=i+ys.length) (by omega);have hfr:=hB.o.free (i+ys.length);obtain ⟨HNX,HSET⟩:=aB hnx hset;have HN2:=hid (hn.o.setCell (p:=⟨w.heap.size,i+ys.length,none⟩) (Nat.le_refl _) (.int .u32 (c:Int)));have j2:(i:Int)+(ys.length:Int)<(xs.length:Int)+(ys.length:Int):=by omega
          clear hnx hset hR hB hn hcB;generalize os.getD (i+ys.length) 0=o at *;go_wp2;go_roundw
          case rel=>exact⟨i+1,os.set (i+ys.length) c,by omega,by go_num,HNX,HSET,HN2⟩
          case measure=>simp[intOf];omega
  · obtain rfl:i=xs.length:=by omega
    have hv:=hT.o.done;have hol:=hT.o.1;have hown:=hB.o.own (B:=w.heap.size) (Nat.le_refl _) (by unfold maxLen;omega);rw[hol]at hown;have htr:=ic 95 w.heap.size _ os hT.o.2.1 wr hown;rw[hv]at htr;have HTR:=hid htr;clear hv hol hown htr hT hB;go_wp2_with fail
    refine HTR.o.mono ?_;rintro e w2 ⟨v',rfl,hown,rfl⟩;go_wp2;go_ret
    exact⟨v',rfl,hown,hn.o⟩
end Go.Proofs.YteihfbkaieemdaaGreatDoor
namespace Go.Gb
theorem z2U {Yt Z V r P t c B:Nat}(hZ:Z<P)(hr:r<P)(hs:Yt+V=Z+P*c)(hY:Yt+P*t+V=r+P*B):c+t=B:=by
 have h:Z+P*(c+t)=r+P*B:=by rw[Nat.mul_add];omega
 have hP:0<P:=by omega
 have h1:=congrArg (· / P) h;simp only[Nat.add_mul_div_left _ _ hP,Nat.div_eq_of_lt hZ,Nat.div_eq_of_lt hr,Nat.zero_add]at h1;exact h1
end Go.Gb
namespace Go.Proofs.YteihfbkaieemdaaGreatDoor
open Go.RowKit Go.Gb
def Row4 (w:World) (g cap:Nat) (zs:List Nat):Prop:=∃ cur:Array Value,w.heap[g]? = some (.cells cur 95 (0,0))∧cur.size=cap∧zs.length≤cap∧cur.toList.take zs.length=cls .u32 zs
theorem Row4.lt {w:World}{g cap:Nat}{zs:List Nat}(h:Row4 w g cap zs):g<w.heap.size:=by
 obtain⟨cur,h1,_⟩:=h;exact(Array.getElem?_eq_some_iff.1 h1).1
theorem Row4.le {w:World}{g cap:Nat}{zs:List Nat}(h:Row4 w g cap zs):zs.length≤cap:=by
 obtain⟨cur,_,_,h3,_⟩:=h;exact h3
theorem Row4.cell {w:World}{g cap:Nat}{zs:List Nat}(h:Row4 w g cap zs){i:Nat}(hi:i<zs.length):w.cell? ⟨g,i,none⟩=some (.int .u32 ((zs.getD i 0:Nat):Int)):=by
 obtain⟨cur,h1,h2,h3,h4⟩:=h;have h5:=jI (k:=.u32) hi;rw[← h4,List.getElem?_take,if_pos hi]at h5;simp only[World.cell?,h1];simpa using h5
theorem Row4.free {w:World}{g cap:Nat}{zs:List Nat}(h:Row4 w g cap zs)(i:Nat):w.frozen? ⟨g,i,none⟩=false:=by
 obtain⟨cur,h1,h2,h3,h4⟩:=h;simp only[World.frozen?,h1];simp
theorem Row4.set {w:World}{g cap:Nat}{zs:List Nat}(h:Row4 w g cap zs)(i v:Nat):Row4 (w.setCell ⟨g,i,none⟩ (.int .u32 ((v:Nat):Int))) g cap (zs.set i v):=by
 obtain⟨cur,h1,h2,h3,h4⟩:=h;refine⟨cur.setIfInBounds i (.int .u32 (v:Int)),?_,by simp[h2],by simpa using h3,?_⟩
 · simp only[World.setCell,Array.getElem?_modify,h1]
   simp
 · rw[List.length_set,rH,← h4,Array.toList_setIfInBounds,List.take_set]
theorem Row4.aside {w:World}{g cap k i:Nat}{zs:List Nat}{v:Value}(h:Row4 w g cap zs)(hne:g≠k):Row4 (w.setCell ⟨k,i,none⟩ v) g cap zs:=by
 obtain⟨cur,h1,h2,h3,h4⟩:=h;exact⟨cur,by rw[Below.heap_setCell _ _ _ _ hne];exact h1,h2,h3,h4⟩
theorem Row4.below {w w':World}{g cap:Nat}{zs:List Nat}(h:Row4 w g cap zs)(hb:Below w.heap.size w w'):Row4 w' g cap zs:=by
 obtain⟨cur,h1,h2,h3,h4⟩:=h;exact⟨cur,by rw[hb.block g (Array.getElem?_eq_some_iff.1 h1).1];exact h1,h2,h3,h4⟩
theorem Row4.drewN {w:World}{g cap:Nat}{zs:List Nat}(h:Row4 w g cap zs)(n:Nat):Row4 (w.drewN n) g cap zs:=h
theorem Row4.take {w:World}{g cap:Nat}{zs:List Nat}(h:Row4 w g cap zs)(m:Nat)(hm:m≤zs.length):Row4 w g cap (zs.take m):=by
 obtain⟨cur,h1,h2,h3,h4⟩:=h;refine⟨cur,h1,h2,by simp;omega,?_⟩;rw[mW,← h4,List.take_take,List.length_take,Nat.min_eq_left hm]
theorem Row4.own {w:World}{g cap B:Nat}{zs:List Nat}(h:Row4 w g cap zs)(hB:B≤g)(hm:cap≤maxLen):Own .u32 95 B w (.slice (some ⟨g,0,none⟩) zs.length cap) zs:=by
 obtain⟨cur,h1,h2,h3,h4⟩:=h;refine⟨by simp[cls],Or.inr ⟨g,cap,cur,rfl,hB,h1,h3,hm,by simp[h2],?_⟩⟩;rw[Nat.mul_one];exact h4
theorem Row4.of_own {w:World}{B:Nat}{v:Value}{zs:List Nat}(h:Own .u32 95 B w v zs)(hp:0<zs.length):∃ g cap,v=.slice (some ⟨g,0,none⟩) zs.length cap∧B≤g∧cap≤maxLen∧Row4 w g cap zs:=by
 obtain⟨h1,h2⟩:=h;rcases h2 with⟨h2,h3⟩|⟨g,cap,cur,hv,hg,hh,hn,hc,hs,ht⟩
 · omega
 · rw[Nat.mul_one]at hs ht
   exact⟨g,cap,hv,hg,hc,cur,hh,hs,hn,ht⟩
open Go.RowKit
abbrev CL (f : FuncId) (args : Array Value) (v : Value) : Prop := ∀ W, La W → Calls Tryz.prog f args W fun e w' => e = .returned v ∧ Below W.heap.size W w'
end Go.Proofs.YteihfbkaieemdaaGreatDoor
set_option maxRecDepth 100000
set_option maxHeartbeats 20000000
open Go.Lib (hid)
namespace Go.Proofs.YteihfbkaieemdaaGreatDoor
open Go.RowKit Go.Gb
def Eb (w:World) (g:Nat) (vf vs vp vq:Value) (n:Bool):Prop:=w.heap[g]? = some (.cells #[vf,vs,vp,vq,.bool n] 210 (0,0))
theorem Eb.lt {w:World}{g:Nat}{vf vs vp vq:Value}{n:Bool}(h:Eb w g vf vs vp vq n):g<w.heap.size:=(Array.getElem?_eq_some_iff.1 h).1
theorem Eb.cells {w:World}{g:Nat}{vf vs vp vq:Value}{n:Bool}(h:Eb w g vf vs vp vq n):w.cell? ⟨g,0,none⟩=some vf∧w.cell? ⟨g,1,none⟩=some vs∧w.cell? ⟨g,2,none⟩=some vp∧w.cell? ⟨g,3,none⟩=some vq∧w.cell? ⟨g,4,none⟩=some (.bool n):=by
 unfold Eb at h
 refine⟨?_,?_,?_,?_,?_⟩<;>simp[World.cell?,h]
theorem Eb.free {w:World}{g:Nat}{vf vs vp vq:Value}{n:Bool}(h:Eb w g vf vs vp vq n)(i:Nat):w.frozen? ⟨g,i,none⟩=false:=by
 unfold Eb at h
 simp only[World.frozen?,h];simp
theorem Eb.kp {w w':World}{g:Nat}{vf vs vp vq:Value}{n:Bool}(h:Eb w g vf vs vp vq n){S:Nat→Prop}(hk:Kp S w w')(hn:¬ S g):Eb w' g vf vs vp vq n:=by
 unfold Eb at *
 rw[hk.block g (Array.getElem?_eq_some_iff.1 h).1 hn];exact h
theorem Eb.below {w w':World}{g:Nat}{vf vs vp vq:Value}{n:Bool}(h:Eb w g vf vs vp vq n)(hb:Below w.heap.size w w'):Eb w' g vf vs vp vq n:=h.kp (S:=fun _=>False) (Kp.of_below hb) (fun h=>h)
theorem Eb.set01 {w:World}{g:Nat}{vf vs vp vq:Value}{n:Bool}(h:Eb w g vf vs vp vq n)(a b:Value):Eb ((w.setCell ⟨g,0,none⟩ a).setCell ⟨g,1,none⟩ b) g a b vp vq n:=by
 unfold Eb at *
 simp only[World.setCell,Array.getElem?_modify,h];simp
theorem Eb.set23 {w:World}{g:Nat}{vf vs vp vq:Value}{n:Bool}(h:Eb w g vf vs vp vq n)(a b:Value):Eb ((w.setCell ⟨g,2,none⟩ a).setCell ⟨g,3,none⟩ b) g vf vs a b n:=by
 unfold Eb at *
 simp only[World.setCell,Array.getElem?_modify,h];simp
theorem Eb.set4 {w:World}{g:Nat}{vf vs vp vq:Value}{n:Bool}(h:Eb w g vf vs vp vq n)(m:Bool):Eb (w.setCell ⟨g,4,none⟩ (.bool m)) g vf vs vp vq m:=by
 unfold Eb at *
 simp only[World.setCell,Array.getElem?_modify,h];simp
theorem Eb.apart {w:World}{g B:Nat}{vf vs vp vq v:Value}{n:Bool}{xs:List Nat}(h:Eb w g vf vs vp vq n)(ho:Own .u64 131 B w v xs):¬ At v g:=by
 intro hg;obtain⟨_,h2⟩:=ho;rcases h2 with⟨rfl,_⟩|⟨k,cap,cur,rfl,_,hh,_⟩
 · exact at_nil _ _ _ hg
 · rw[fU]at hg
   subst hg;unfold Eb at h
   rw[h]at hh;injection hh with hh
   injection hh with e1 e2 e3
   exact absurd e2 (by decide)
structure St4 (B:Nat) (w:World) (vf vs vp vq:Value) (F S P Q:Nat):Prop where
 f:Own .u64 131 B w vf (ae F)
 s:Own .u64 131 B w vs (ae S)
 p:Own .u64 131 B w vp (ae P)
 q:Own .u64 131 B w vq (ae Q)
 fs:Apt vf vs
 fp:Apt vf vp
 fq:Apt vf vq
 sp:Apt vs vp
 sq:Apt vs vq
 pq:Apt vp vq
theorem St4.below {B:Nat}{w w':World}{vf vs vp vq:Value}{F S P Q:Nat}(h:St4 B w vf vs vp vq F S P Q)(hb:Below w.heap.size w w'):St4 B w' vf vs vp vq F S P Q :=
 ⟨h.f.below hb,h.s.below hb,h.p.below hb,h.q.below hb,h.fs,h.fp,h.fq,h.sp,h.sq,h.pq⟩
theorem St4.kp {B:Nat}{w w':World}{vf vs vp vq:Value}{F S P Q:Nat}(h:St4 B w vf vs vp vq F S P Q){Z:Nat→Prop}(hk:Kp Z w w')(hn:∀ g,(At vf g∨At vs g∨At vp g∨At vq g)→¬ Z g):St4 B w' vf vs vp vq F S P Q :=
 ⟨h.f.kp hk (fun g hg=>hn g (Or.inl hg)),h.s.kp hk (fun g hg=>hn g (Or.inr (Or.inl hg))),h.p.kp hk (fun g hg=>hn g (Or.inr (Or.inr (Or.inl hg)))),h.q.kp hk (fun g hg=>hn g (Or.inr (Or.inr (Or.inr hg)))),h.fs,h.fp,h.fq,h.sp,h.sq,h.pq⟩
theorem ik {w:World}(g i:Nat)(u:Value):Kp (fun k=>k=g) w (w.setCell ⟨g,i,none⟩ u):=(Kp.refl (fun k=>k=g) w).set (p:=⟨g,i,none⟩) (fun _=>rfl) u
def EuSt (B:Nat) (w:World) (g F S P Q:Nat) (n:Bool):Prop:=∃ vf vs vp vq,Eb w g vf vs vp vq n∧B≤g∧St4 B w vf vs vp vq F S P Q
theorem fI {k:IntKind}{T:TypeId}{w0 w:World}{v:Value}{xs:List Nat}(h:Own k T w0.heap.size w v xs)(u:Value)(hu:∀ g,At u g→g<w0.heap.size):Apt v u:=Apt.fresh h.fresh hu
theorem z0J (B g F S P Q:Nat)(n:Bool)(hS0:S≠0)(hlF:(ae F).length≤80000)(hlP:(ae P).length≤80000)(hlQ:(ae Q).length≤80000)(hlN:(ae (P+F / S*Q)).length≤80000)(w:World)(h:EuSt B w g F S P Q n)(hB:B≤w.heap.size) :
 Calls Tryz.prog 208 #[.pointer (some ⟨g,0,none⟩)] w fun e w'=>e=.returned (.tuple #[])∧Hid (EuSt B w' g S (F%S) Q (P+F / S*Q) (!n))∧Below B w w':=by
 obtain⟨vf,vs,vp,vq,hE,hBg,h4⟩:=h;obtain⟨as_,cs_,rfl⟩:=aW h4.s.rd;obtain⟨aq,cq,rfl⟩:=aW h4.q.rd;have HDv:=hid (qg vf (.slice as_ (ae S).length cs_) F S hS0 (by omega) w.drew h4.f.rd h4.s.rd);obtain⟨D,hD⟩:∃ D,D=F / S:=⟨_,rfl⟩;obtain⟨R,hR⟩:∃ R,R=F%S:=⟨_,rfl⟩;rw[← hD,← hR]at HDv;rw[← hD]at hlN;rw[← hD,← hR]
 have hlD:(ae D).length≤80000:=by
  rw[hD];exact Nat.le_trans (aO (Nat.div_le_self F S)) hlF
 have hlX:(ae (D*Q)).length≤80000:=Nat.le_trans (aO (Nat.le_add_left _ _)) hlN;obtain ⟨HE,H4,HB,HBg⟩:=aL hE h4 hB hBg;obtain⟨c0,c1,c2,c3,c4⟩:=hE.cells;clear hD hR hE h4 hB hBg hS0 hlF;go_enter func208,ntmps208
 go_upto_region 0 with fail
 go_cut [2,3] (fun v2 v3 wx=>∃ qv rv:Value,v2=qv∧v3=rv∧Hid (Own .u64 131 w.heap.size wx qv (ae D))∧Hid (Own .u64 131 w.heap.size wx rv (ae R))∧Hid (Below w.heap.size w wx))
 case first =>
  go_region_with (go_at_call 224;go_must (refine HDv.o.mono ?_;rintro e w1 ⟨qv,rv,rfl,hq,hr,hb1⟩))
  all_goals
   have HQ:=hid (show Own .u64 131 w.heap.size w1 qv (ae D) from hq);have HR:=hid (show Own .u64 131 w.heap.size w1 rv (ae R) from hr);have w9:=hid (show Below w.heap.size w w1 from(Below.refl _ w).drew.trans hb1);clear hq hr hb1;go_wp2_with fail
   go_meet
   exact⟨qv,rv,rfl,rfl,HQ,HR,w9⟩
 case rest =>
  obtain⟨_,_,rfl,rfl,hq,hr,hb⟩:=hcut;obtain⟨ar,cr,rfl⟩:=aW hr.o.rd;clear c0 c1 c2 c3 c4;have hE1:=HE.o.below hb.o;obtain⟨c0,c1,c2,c3,c4⟩:=hE1.cells;have f0:=hE1.free 0;have f1:=hE1.free 1;have HE2:=hid (hE1.set01 (.slice as_ (ae S).length cs_) (.slice ar (ae R).length cr));have K2:=hid (show Kp (fun k=>k=g) wc ((wc.setCell ⟨g,0,none⟩ (.slice as_ (ae S).length cs_)).setCell ⟨g,1,none⟩ (.slice ar (ae R).length cr)) from(ik g 0 (.slice as_ (ae S).length cs_)).trans (ik g 1 (.slice ar (ae R).length cr)) (fun _ _ h=>h));have HE1:=hid hE1;clear hE1;go_upto_region 2 with fail
  clear c0 c1 c2 c3 c4 f0 f1;generalize (wc.setCell ⟨g,0,none⟩ (.slice as_ (ae S).length cs_)).setCell ⟨g,1,none⟩ (.slice ar (ae R).length cr)=w2 at *;have L:=H4.o;have hBw:=HB.o;have hBg:=HBg.o;have Lc:=L.below hb.o;have R1:=hr.o.mono hBw;have D1:=hq.o.mono hBw;have nvs:¬ At (.slice as_ (ae S).length cs_) g:=HE.o.apart L.s;have nvp:¬ At vp g:=HE.o.apart L.p;have nvq:¬ At (.slice aq (ae Q).length cq) g:=HE.o.apart L.q;have nu3:¬ At (.slice ar (ae R).length cr) g:=HE1.o.apart R1;have nu2:¬ At u2 g:=HE1.o.apart D1;have S2:=Lc.s.kp K2.o (fun k hk e=>nvs (e▸hk));have P2:=Lc.p.kp K2.o (fun k hk e=>nvp (e▸hk));have Q2:=Lc.q.kp K2.o (fun k hk e=>nvq (e▸hk));have R2:=R1.kp K2.o (fun k hk e=>nu3 (e▸hk));have D2:=D1.kp K2.o (fun k hk e=>nu2 (e▸hk));have A1:Apt (.slice ar (ae R).length cr) (.slice as_ (ae S).length cs_):=fI hr.o (.slice as_ (ae S).length cs_) (fun k hk=>(L.s.at hk).2);have A2:Apt (.slice ar (ae R).length cr) vp:=fI hr.o vp (fun k hk=>(L.p.at hk).2);have A3:Apt (.slice ar (ae R).length cr) (.slice aq (ae Q).length cq):=fI hr.o (.slice aq (ae Q).length cq) (fun k hk=>(L.q.at hk).2);have b1:B≤wc.heap.size:=Nat.le_trans hBw hb.o.size;have b2:B≤w2.heap.size:=Nat.le_trans b1 K2.o.size;have HM:=hid (iL u2 (.slice aq (ae Q).length cq) D Q (by omega) (by omega) w2 D2.rd Q2.rd);have HBl2:=hid (show Below B w w2 from(hb.o.mono hBw).trans (K2.o.below b1 (fun k e=>e▸hBg)));obtain ⟨HS2,HP2,HQ2,HR2,HA1,HA2,HA3,HL,Hb2⟩:=dG S2 P2 Q2 R2 A1 A2 A3 L b2;clear Lc L R1 D1 nvs nvp nvq nu3 nu2 S2 P2 Q2 R2 D2 A1 A2 A3 b1 b2 hBw hBg;obtain⟨c0,c1,c2,c3,c4⟩:=HE2.o.cells;go_wp2_with fail
  refine HM.o.mono ?_;rintro e w3 ⟨pv,rfl,hpv,hb3⟩;clear c0 c1 c2 c3 c4;have E3:=HE2.o.below hb3;have S3:=HS2.o.below hb3;have P3:=HP2.o.below hb3;have Q3:=HQ2.o.below hb3;have R3:=HR2.o.below hb3;have X3:=hpv.mono Hb2.o;have A4:Apt pv vp:=fI hpv vp (fun k hk=>(HP2.o.at hk).2);have A5:Apt pv (.slice as_ (ae S).length cs_):=fI hpv (.slice as_ (ae S).length cs_) (fun k hk=>(HS2.o.at hk).2);have A6:Apt pv (.slice aq (ae Q).length cq):=fI hpv (.slice aq (ae Q).length cq) (fun k hk=>(HQ2.o.at hk).2);have A7:Apt pv (.slice ar (ae R).length cr):=fI hpv (.slice ar (ae R).length cr) (fun k hk=>(HR2.o.at hk).2);have b3:B≤w3.heap.size:=Nat.le_trans Hb2.o hb3.size
  have HBL:=hid (jK B vp pv (ae P) (ae (D*Q)) 1 1 0 0 (P+D*Q) 0 w3 (by decide) (by decide) (by decide) (by decide) (by decide) (by decide) (by decide) (by decide)
   (aU _) (aU _) (by omega) (by omega) (by rw[aA,aA,Int.one_mul,Int.one_mul,Int.natCast_add]) (by rw[Int.zero_mul,Int.zero_mul];rfl) P3 X3 A4.symm b3)
  have HBl3:=hid (show Below B w w3 from HBl2.o.trans (hb3.mono Hb2.o));obtain⟨c0,c1,c2,c3,c4⟩:=E3.cells;obtain ⟨HE3,HS3,HP3,HQ3,HR3,HX3,HA4,HA5,HA6⟩:=dG E3 S3 P3 Q3 R3 X3 A4 A5 A6;have HA7:=hid A7;have Hb3:=hid b3;clear E3 S3 P3 Q3 R3 X3 A4 A5 A6 A7 b3 hpv hb3;go_wp2_with fail
  refine HBL.o.mono ?_;rintro e w4 ⟨n1,n2,rfl,h41,_,_,hno1,_,hk4⟩;obtain⟨an,cn,rfl⟩:=aW h41.rd;clear c0 c1 c2 c3 c4;have L:=HL.o;have hBg:=HBg.o;have E4:=HE3.o.kp hk4 (fun h=>h.elim (HE3.o.apart HP3.o) (HE3.o.apart HX3.o));have S4:=HS3.o.kp hk4 (fun k hk h=>h.elim (fun h=>L.sp k hk h) (fun h=>HA5.o k h hk));have Q4:=HQ3.o.kp hk4 (fun k hk h=>h.elim (fun h=>L.pq k h hk) (fun h=>HA6.o k h hk));have R4:=HR3.o.kp hk4 (fun k hk h=>h.elim (fun h=>HA2.o k hk h) (fun h=>HA7.o k h hk));have T1:Apt (.slice an (ae (P+D*Q)).length cn) (.slice as_ (ae S).length cs_):=L.sp.symm.newOr hno1 (fun k hk=>(HS3.o.at hk).2);have T2:Apt (.slice an (ae (P+D*Q)).length cn) (.slice aq (ae Q).length cq):=L.pq.newOr hno1 (fun k hk=>(HQ3.o.at hk).2);have T3:Apt (.slice an (ae (P+D*Q)).length cn) (.slice ar (ae R).length cr):=HA2.o.symm.newOr hno1 (fun k hk=>(HR3.o.at hk).2);have HBl4:=hid (show Below B w w4 from HBl3.o.trans (hk4.below Hb3.o (fun k h=>h.elim (fun h=>(HP3.o.at h).1) (fun h=>(HX3.o.at h).1))));have b4:B≤w4.heap.size:=Nat.le_trans Hb3.o hk4.size;obtain⟨c0,c1,c2,c3,c4⟩:=E4.cells;have f2:=E4.free 2;have f3:=E4.free 3;have HE5:=hid (E4.set23 (.slice aq (ae Q).length cq) (.slice an (ae (P+D*Q)).length cn));have K5:=hid (show Kp (fun k=>k=g) w4 ((w4.setCell ⟨g,2,none⟩ (.slice aq (ae Q).length cq)).setCell ⟨g,3,none⟩ (.slice an (ae (P+D*Q)).length cn)) from(ik g 2 (.slice aq (ae Q).length cq)).trans (ik g 3 (.slice an (ae (P+D*Q)).length cn)) (fun _ _ h=>h));obtain ⟨HE4,HS4,HQ4,HR4,HN4,HT1,HT2,HT3,Hb4⟩:=dG E4 S4 Q4 R4 h41 T1 T2 T3 b4;clear L hBg E4 S4 Q4 R4 T1 T2 T3 b4 h41 hno1 hk4;go_upto_region 5 with fail
  clear c0 c1 c2 c3 c4 f2 f3;generalize (w4.setCell ⟨g,2,none⟩ (.slice aq (ae Q).length cq)).setCell ⟨g,3,none⟩ (.slice an (ae (P+D*Q)).length cn)=w5 at *;obtain⟨c0,c1,c2,c3,c4⟩:=HE5.o.cells;have f4:=HE5.o.free 4;go_wp2;go_end0
  have L:=HL.o;have K6:Kp (fun k=>k=g) w4 (w5.setCell ⟨g,4,none⟩ (.bool (!n))):=K5.o.trans (ik g 4 (.bool (!n))) (fun _ _ h=>h);refine⟨rfl,⟨(.slice as_ (ae S).length cs_),(.slice ar (ae R).length cr),(.slice aq (ae Q).length cq),(.slice an (ae (P+D*Q)).length cn),HE5.o.set4 (!n),HBg.o,?_⟩,HBl4.o.trans (K6.below Hb4.o (fun k e=>e▸HBg.o))⟩
  exact⟨HS4.o.kp K6 (fun k hk e=>HE4.o.apart HS4.o (e▸hk)),HR4.o.kp K6 (fun k hk e=>HE4.o.apart HR4.o (e▸hk)),HQ4.o.kp K6 (fun k hk e=>HE4.o.apart HQ4.o (e▸hk)),HN4.o.kp K6 (fun k hk e=>HE4.o.apart HN4.o (e▸hk)),
   HA1.o.symm,L.sq,HT1.o.symm,HA3.o,HT3.o.symm,HT2.o.symm⟩
open Go.Lib (hid)
theorem Kp.undrew {S:Nat→Prop}{a b:World}(h:Kp S a.drew b):Kp S a b:=⟨h.os,h.tape,h.output,h.size,h.block⟩
theorem jG {w:World}{g k a b c d:Nat}{o n:Bool}{vf vs vp vq:Value}(h:Eb w g vf vs vp vq n)(hs:Sb w k a b c d o):g≠k:=by
 intro e;subst e;unfold Eb at h
 unfold Sb at hs
 rw[h]at hs;injection hs with hs
 injection hs with e1 e2 e3
 exact absurd e2 (by decide)
theorem yh {w w':World}{k a b c d:Nat}{o:Bool}(hs:Sb w k a b c d o){Z:Nat→Prop}(hk:Kp Z w w')(hn:¬ Z k):Sb w' k a b c d o:=by
 unfold Sb at *
 rw[hk.block k (Array.getElem?_eq_some_iff.1 hs).1 hn];exact hs
theorem kK {w:World}{k a b c d B:Nat}{o:Bool}{v:Value}{xs:List Nat}(h:Sb w k a b c d o)(ho:Own .u64 131 B w v xs):¬ At v k:=by
 intro hg;obtain⟨_,h2⟩:=ho;rcases h2 with⟨rfl,_⟩|⟨j,cap,cur,rfl,_,hh,_⟩
 · exact at_nil _ _ _ hg
 · rw[fU]at hg
   subst hg;unfold Sb at h
   rw[h]at hh;injection hh with hh
   injection hh with e1 e2 e3
   exact absurd e2 (by decide)
theorem St4.blendPQ {B g k:Nat}{w w':World}{vf vs vp vq u1 u2:Value}{F S P Q P' Q' a b c d:Nat}{n o:Bool}(L:St4 B w vf vs vp vq F S P Q)(E:Eb w g vf vs vp vq n)(K:Sb w k a b c d o)(hB:B≤w.heap.size)
 (o1:Own .u64 131 B w' u1 (ae P')) (o2:Own .u64 131 B w' u2 (ae Q')) (ap:Apt u1 u2) (n1:gD w vp u1) (n2:gD w vq u2) (hk:Kp (fun g=>At vp g∨At vq g) w w') :
 St4 B w' vf vs u1 u2 F S P' Q'∧Eb w' g vf vs vp vq n∧Sb w' k a b c d o∧Below B w w' :=
 ⟨⟨L.f.kp hk (fun _ h1 h2=>h2.elim (L.fp _ h1) (L.fq _ h1)),L.s.kp hk (fun _ h1 h2=>h2.elim (L.sp _ h1) (L.sq _ h1)),o1,o2,L.fs,(L.fp.symm.newOr n1 (fun _ h=>(L.f.at h).2)).symm,(L.fq.symm.newOr n2 (fun _ h=>(L.f.at h).2)).symm,
   (L.sp.symm.newOr n1 (fun _ h=>(L.s.at h).2)).symm,(L.sq.symm.newOr n2 (fun _ h=>(L.s.at h).2)).symm,ap⟩,
  E.kp hk (fun h=>h.elim (E.apart L.p) (E.apart L.q)),yh K hk (fun h=>h.elim (kK K L.p) (kK K L.q)),hk.below hB (fun _ h=>h.elim (fun h=>(L.p.at h).1) (fun h=>(L.q.at h).1))⟩
theorem St4.blendFS {B g k:Nat}{w w':World}{vf vs vp vq u1 u2:Value}{F S P Q F' S' a b c d:Nat}{n o:Bool}(L:St4 B w vf vs vp vq F S P Q)(E:Eb w g vf vs vp vq n)(K:Sb w k a b c d o)(hB:B≤w.heap.size)
 (o1:Own .u64 131 B w' u1 (ae F')) (o2:Own .u64 131 B w' u2 (ae S')) (ap:Apt u1 u2) (n1:gD w vf u1) (n2:gD w vs u2) (hk:Kp (fun g=>At vf g∨At vs g) w w') :
 St4 B w' u1 u2 vp vq F' S' P Q∧Eb w' g vf vs vp vq n∧Sb w' k a b c d o∧Below B w w' :=
 ⟨⟨o1,o2,L.p.kp hk (fun _ h1 h2=>h2.elim (fun h=>L.fp _ h h1) (fun h=>L.sp _ h h1)),L.q.kp hk (fun _ h1 h2=>h2.elim (fun h=>L.fq _ h h1) (fun h=>L.sq _ h h1)),ap,L.fp.newOr n1 (fun _ h=>(L.p.at h).2),L.fq.newOr n1 (fun _ h=>(L.q.at h).2),
   L.sp.newOr n2 (fun _ h=>(L.p.at h).2),L.sq.newOr n2 (fun _ h=>(L.q.at h).2),L.pq⟩,
  E.kp hk (fun h=>h.elim (E.apart L.f) (E.apart L.s)),yh K hk (fun h=>h.elim (kK K L.f) (kK K L.s)),hk.below hB (fun _ h=>h.elim (fun h=>(L.f.at h).1) (fun h=>(L.s.at h).1))⟩
theorem St4.stored {B g:Nat}{w w':World}{vf vs vp vq wf ws wp wq:Value}{F S P Q:Nat}{n:Bool}(L:St4 B w vf vs vp vq F S P Q)(E:Eb w g wf ws wp wq n)(hk:Kp (fun k=>k=g) w w'):St4 B w' vf vs vp vq F S P Q :=
 L.kp hk (fun _ h e=>by subst e;exact h.elim (E.apart L.f) (fun h=>h.elim (E.apart L.s) (fun h=>h.elim (E.apart L.p) (E.apart L.q))))
theorem yJ (B g F S P Q a b c d f s:Nat)(n:Bool)(hm:Made a b c d false F S f s)(hf:Fac a b c d)(hd9:d≤1000000000)(hlF:(ae F).length≤80000)(hlS:(ae S).length≤80000)(hlP:(ae P).length≤80000)(hlQ:(ae Q).length≤80000)(w:World)(h:EuSt B w g F S P Q n)(hB:B≤w.heap.size) :
 Calls Tryz.prog 210 #[.pointer (some ⟨g,0,none⟩),.agg #[.int .u64 (a:Int),.int .u64 (b:Int),.int .u64 (c:Int),.int .u64 (d:Int),.bool false]] w fun e w'=>e=.returned (.tuple #[])∧Hid (EuSt B w' g f s (a*P+b*Q) (c*P+d*Q) (n != false))∧Below B w w':=by
 obtain⟨ha9,hb9,hc9⟩:=hf.le hd9 (by omega);obtain⟨vf,vs,vp,vq,hE,hBg,h4⟩:=h;obtain⟨e1,e2⟩:=hm.even;obtain ⟨HE1,HE2,HBg,HB⟩:=aL e1 e2 hBg hB;have hw0:=(Below.refl w.heap.size w).alloc (Nat.le_refl _) (.cells #[.int .u64 (a:Int),.int .u64 (b:Int),.int .u64 (c:Int),.int .u64 (d:Int),.bool false] 203);obtain ⟨HEb,H4,HS,HW⟩:=aL (hE.below hw0) (h4.below hw0) (kJ w a b c d false) (hw0.mono hB);have HZ:=hid (show B≤(w.alloc (.cells #[.int .u64 (a:Int),.int .u64 (b:Int),.int .u64 (c:Int),.int .u64 (d:Int),.bool false] 203)).heap.size by rw[World.size_alloc];omega);clear hm hf e1 e2 hBg hB hw0 hE h4;obtain⟨s0,s1,s2,s3,s4⟩:=bH HS.o;obtain⟨k,hk⟩:∃ k,k=w.heap.size:=⟨_,rfl⟩;rw[← hk]at HS s0 s1 s2 s3 s4;have HK:=hid hk;go_enter func210,ntmps210
 go_upto_region 1 with fail
 rw[← hk];clear hk;generalize w.alloc (.cells #[.int .u64 (a:Int),.int .u64 (b:Int),.int .u64 (c:Int),.int .u64 (d:Int),.bool false] 203)=w0 at *;go_wp2;go_quiet (fail)
 have HEb:=hid (show Eb (w0.drewN nq) g vf vs vp vq n from HEb.o);have H4:=hid (show St4 B (w0.drewN nq) vf vs vp vq F S P Q from H4.o.kp ((Kp.refl (fun _=>False) w0).drewN nq) (fun _ _ h=>h));have HS:=hid (show Sb (w0.drewN nq) k a b c d false from HS.o);have HW:=hid (show Below B w (w0.drewN nq) from below_drewN' HW.o nq);have HZ:=hid (show B≤(w0.drewN nq).heap.size from HZ.o);clear s0 s1 s2 s3 s4;generalize w0.drewN nq=w1 at *
 have HBl:=hid (jK B vp vq (ae P) (ae Q) a b c d (a*P+b*Q) (c*P+d*Q) w1.drew (by omega) (by omega) (by omega) (by omega) (by omega) (by omega) (by omega) (by omega)
  (aU _) (aU _) (by omega) (by omega) (by rw[aA,aA,Int.natCast_add,Int.natCast_mul,Int.natCast_mul]) (by rw[aA,aA,Int.natCast_add,Int.natCast_mul,Int.natCast_mul]) H4.o.p H4.o.q H4.o.pq HZ.o)
 obtain⟨c0,c1,c2,c3,c4⟩:=HEb.o.cells;go_upto_region 2 with fail
 go_cut [20] (fun _ wx=>∃ vp vq:Value,Hid (Eb wx g vf vs vp vq n)∧Hid (St4 B wx vf vs vp vq F S (a*P+b*Q) (c*P+d*Q))∧Hid (Sb wx k a b c d false)∧Hid (Below B w wx))
 case first =>
  go_region_with (go_at_call 230;go_must (refine HBl.o.mono ?_;rintro e w2 ⟨u1,u2,rfl,o1,o2,ap,n1,n2,hk⟩;obtain⟨r1,r2,r3,r4⟩:=H4.o.blendPQ HEb.o HS.o HZ.o o1 o2 ap n1 n2 (Kp.undrew hk);obtain⟨x1,y1,rfl⟩:=aW o1.rd;obtain⟨x2,y2,rfl⟩:=aW o2.rd;have R1:=hid r1;have R2:=hid r2;have R3:=hid r3;have R4:=hid r4;obtain⟨d0,d1,d2,d3,d4⟩:=r2.cells;have f2:=r2.free 2;have f3:=r2.free 3;clear o1 o2 ap n1 n2 hk r1 r2 r3 r4))
  all_goals
   have K:=(ik (w:=w2) g 2 (.slice x1 (ae (a*P+b*Q)).length y1)).trans (ik g 3 (.slice x2 (ae (c*P+d*Q)).length y2)) (fun _ _ h=>h);have E':=hid (R2.o.set23 (.slice x1 (ae (a*P+b*Q)).length y1) (.slice x2 (ae (c*P+d*Q)).length y2));have L':=hid (R1.o.stored R2.o K);have S':=hid (yh R3.o K (fun e=>jG R2.o R3.o e.symm));have W':=hid (HW.o.trans (R4.o.trans (K.below (Nat.le_trans HZ.o R4.o.size) (fun _ e=>e▸HBg.o))));clear d0 d1 d2 d3 d4 f2 f3 K;go_wp2_with fail
   go_meet
   exact⟨_,_,E',L',S',W'⟩
 case rest =>
  clear HEb H4 HS HW HZ c0 c1 c2 c3 c4 HBl;obtain⟨vp,vq,HEb,H4,HS,HW⟩:=hcut;have HZ:=hid (Nat.le_trans HB.o HW.o.size)
  have HBl:=hid (jK B vf vs (ae F) (ae S) ((a:Int)) (-(b:Int)) (-(c:Int)) ((d:Int)) f s wc.drew (by omega) (by omega) (by omega) (by omega) (by omega) (by omega) (by omega) (by omega)
   (aU _) (aU _) (by omega) (by omega) (by rw[aA,aA];exact HE1.o) (by rw[aA,aA];exact HE2.o) H4.o.f H4.o.s H4.o.fs HZ.o)
  obtain⟨c0,c1,c2,c3,c4⟩:=HEb.o.cells;obtain⟨s0,s1,s2,s3,s4⟩:=bH HS.o;have v1:IntKind.i64.wrap (-(a:Int)) = -(a:Int):=IntWalk.i64_in _ (by omega);have v2:IntKind.i64.wrap (-(b:Int)) = -(b:Int):=IntWalk.i64_in _ (by omega);have v3:IntKind.i64.wrap (-(c:Int)) = -(c:Int):=IntWalk.i64_in _ (by omega);have v4:IntKind.i64.wrap (-(d:Int)) = -(d:Int):=IntWalk.i64_in _ (by omega);have v5:IntKind.i64.wrap (b:Int)=(b:Int):=IntWalk.i64_in _ (by omega);have v6:IntKind.i64.wrap (c:Int)=(c:Int):=IntWalk.i64_in _ (by omega);go_upto_region 5 with fail
  go_cut [52] (fun _ wx=>∃ vf vs:Value,Hid (Eb wx g vf vs vp vq n)∧Hid (St4 B wx vf vs vp vq f s (a*P+b*Q) (c*P+d*Q))∧Hid (Sb wx k a b c d false)∧Hid (Below B w wx))
  case first =>
   go_region_with (go_at_call 230;go_must (refine HBl.o.mono ?_;rintro e w2 ⟨u1,u2,rfl,o1,o2,ap,n1,n2,hk⟩;obtain⟨r1,r2,r3,r4⟩:=H4.o.blendFS HEb.o HS.o HZ.o o1 o2 ap n1 n2 (Kp.undrew hk);obtain⟨x1,y1,rfl⟩:=aW o1.rd;obtain⟨x2,y2,rfl⟩:=aW o2.rd;have R1:=hid r1;have R2:=hid r2;have R3:=hid r3;have R4:=hid r4;obtain⟨d0,d1,d2,d3,d4⟩:=r2.cells;have f0:=r2.free 0;have f1:=r2.free 1;clear o1 o2 ap n1 n2 hk r1 r2 r3 r4))
   all_goals
        have K:=(ik (w:=w2) g 0 (.slice x1 (ae f).length y1)).trans (ik g 1 (.slice x2 (ae s).length y2)) (fun _ _ h=>h);obtain ⟨E',L'⟩:=aB (R2.o.set01 (.slice x1 (ae f).length y1) (.slice x2 (ae s).length y2)) (R1.o.stored R2.o K);have S':=hid (yh R3.o K (fun e=>jG R2.o R3.o e.symm));have W':=hid (HW.o.trans (R4.o.trans (K.below (Nat.le_trans HZ.o R4.o.size) (fun _ e=>e▸HBg.o))));clear d0 d1 d2 d3 d4 f0 f1 K;go_wp2_with fail
        go_meet
        exact⟨_,_,E',L',S',W'⟩
  case rest =>
   clear HEb H4 HS HW HZ c0 c1 c2 c3 c4 HBl s0 s1 s2 s3 s4 v1 v2 v3 v4 v5 v6;obtain⟨vf,vs,HEb,H4,HS,HW⟩:=hcut;obtain⟨c0,c1,c2,c3,c4⟩:=HEb.o.cells;obtain⟨s0,s1,s2,s3,s4⟩:=bH HS.o;have f4:=HEb.o.free 4;go_wp2;go_region
   all_goals
        clear c0 c1 c2 c3 c4 s0 s1 s2 s3 s4 f4;go_wp2;go_end0
        have K:Kp (fun k=>k=g) wc (wc.setCell ⟨g,4,none⟩ (.bool n)).drew:=(ik g 4 (.bool n)).drew;refine⟨rfl,⟨vf,vs,vp,vq,?_,HBg.o,H4.o.stored HEb.o K⟩,HW.o.trans (K.below (Nat.le_trans HB.o HW.o.size) (fun _ e=>e▸HBg.o))⟩;have E:=HEb.o.set4 n;have e:(n != false)=n:=by cases n<;>rfl
        rw[e];exact E
end Go.Proofs.YteihfbkaieemdaaGreatDoor
open Go.Lib (hid)
namespace Go.Proofs.YteihfbkaieemdaaGreatDoor
open Go.RowKit Go.Gb
theorem z0K (B g F S P Q a b c d f s:Nat)(n:Bool)(hm:Made a b c d true F S f s)(hf:Fac a b c d)(hd9:d≤1000000000)(hlF:(ae F).length≤80000)(hlS:(ae S).length≤80000)(hlP:(ae P).length≤80000)(hlQ:(ae Q).length≤80000)(w:World)(h:EuSt B w g F S P Q n)(hB:B≤w.heap.size) :
 Calls Tryz.prog 210 #[.pointer (some ⟨g,0,none⟩),.agg #[.int .u64 (a:Int),.int .u64 (b:Int),.int .u64 (c:Int),.int .u64 (d:Int),.bool true]] w fun e w'=>e=.returned (.tuple #[])∧Hid (EuSt B w' g f s (a*P+b*Q) (c*P+d*Q) (n != true))∧Below B w w':=by
 obtain⟨ha9,hb9,hc9⟩:=hf.le hd9 (by omega);obtain⟨vf,vs,vp,vq,hE,hBg,h4⟩:=h;obtain⟨e1,e2⟩:=hm.odd;obtain ⟨HE1,HE2,HBg,HB⟩:=aL e1 e2 hBg hB;have hw0:=(Below.refl w.heap.size w).alloc (Nat.le_refl _) (.cells #[.int .u64 (a:Int),.int .u64 (b:Int),.int .u64 (c:Int),.int .u64 (d:Int),.bool true] 203);obtain ⟨HEb,H4,HS,HW⟩:=aL (hE.below hw0) (h4.below hw0) (kJ w a b c d true) (hw0.mono hB);have HZ:=hid (show B≤(w.alloc (.cells #[.int .u64 (a:Int),.int .u64 (b:Int),.int .u64 (c:Int),.int .u64 (d:Int),.bool true] 203)).heap.size by rw[World.size_alloc];omega);clear hm hf e1 e2 hBg hB hw0 hE h4;obtain⟨s0,s1,s2,s3,s4⟩:=bH HS.o;obtain⟨k,hk⟩:∃ k,k=w.heap.size:=⟨_,rfl⟩;rw[← hk]at HS s0 s1 s2 s3 s4;have HK:=hid hk;go_enter func210,ntmps210
 go_upto_region 1 with fail
 rw[← hk];clear hk;generalize w.alloc (.cells #[.int .u64 (a:Int),.int .u64 (b:Int),.int .u64 (c:Int),.int .u64 (d:Int),.bool true] 203)=w0 at *;go_wp2;go_quiet (fail)
 have HEb:=hid (show Eb (w0.drewN nq) g vf vs vp vq n from HEb.o);have H4:=hid (show St4 B (w0.drewN nq) vf vs vp vq F S P Q from H4.o.kp ((Kp.refl (fun _=>False) w0).drewN nq) (fun _ _ h=>h));have HS:=hid (show Sb (w0.drewN nq) k a b c d true from HS.o);have HW:=hid (show Below B w (w0.drewN nq) from below_drewN' HW.o nq);have HZ:=hid (show B≤(w0.drewN nq).heap.size from HZ.o);clear s0 s1 s2 s3 s4;generalize w0.drewN nq=w1 at *
 have HBl:=hid (jK B vp vq (ae P) (ae Q) a b c d (a*P+b*Q) (c*P+d*Q) w1.drew (by omega) (by omega) (by omega) (by omega) (by omega) (by omega) (by omega) (by omega)
  (aU _) (aU _) (by omega) (by omega) (by rw[aA,aA,Int.natCast_add,Int.natCast_mul,Int.natCast_mul]) (by rw[aA,aA,Int.natCast_add,Int.natCast_mul,Int.natCast_mul]) H4.o.p H4.o.q H4.o.pq HZ.o)
 obtain⟨c0,c1,c2,c3,c4⟩:=HEb.o.cells;go_upto_region 2 with fail
 go_cut [20] (fun _ wx=>∃ vp vq:Value,Hid (Eb wx g vf vs vp vq n)∧Hid (St4 B wx vf vs vp vq F S (a*P+b*Q) (c*P+d*Q))∧Hid (Sb wx k a b c d true)∧Hid (Below B w wx))
 case first =>
  go_region_with (go_at_call 230;go_must (refine HBl.o.mono ?_;rintro e w2 ⟨u1,u2,rfl,o1,o2,ap,n1,n2,hk⟩;obtain⟨r1,r2,r3,r4⟩:=H4.o.blendPQ HEb.o HS.o HZ.o o1 o2 ap n1 n2 (Kp.undrew hk);obtain⟨x1,y1,rfl⟩:=aW o1.rd;obtain⟨x2,y2,rfl⟩:=aW o2.rd;have R1:=hid r1;have R2:=hid r2;have R3:=hid r3;have R4:=hid r4;obtain⟨d0,d1,d2,d3,d4⟩:=r2.cells;have f2:=r2.free 2;have f3:=r2.free 3;clear o1 o2 ap n1 n2 hk r1 r2 r3 r4))
  all_goals
   have K:=(ik (w:=w2) g 2 (.slice x1 (ae (a*P+b*Q)).length y1)).trans (ik g 3 (.slice x2 (ae (c*P+d*Q)).length y2)) (fun _ _ h=>h);have E':=hid (R2.o.set23 (.slice x1 (ae (a*P+b*Q)).length y1) (.slice x2 (ae (c*P+d*Q)).length y2));have L':=hid (R1.o.stored R2.o K);have S':=hid (yh R3.o K (fun e=>jG R2.o R3.o e.symm));have W':=hid (HW.o.trans (R4.o.trans (K.below (Nat.le_trans HZ.o R4.o.size) (fun _ e=>e▸HBg.o))));clear d0 d1 d2 d3 d4 f2 f3 K;go_wp2_with fail
   go_meet
   exact⟨_,_,E',L',S',W'⟩
 case rest =>
  clear HEb H4 HS HW HZ c0 c1 c2 c3 c4 HBl;obtain⟨vp,vq,HEb,H4,HS,HW⟩:=hcut;have HZ:=hid (Nat.le_trans HB.o HW.o.size)
  have HBl:=hid (jK B vf vs (ae F) (ae S) (-(a:Int)) ((b:Int)) ((c:Int)) (-(d:Int)) f s wc.drew (by omega) (by omega) (by omega) (by omega) (by omega) (by omega) (by omega) (by omega)
   (aU _) (aU _) (by omega) (by omega) (by rw[aA,aA];exact HE1.o) (by rw[aA,aA];exact HE2.o) H4.o.f H4.o.s H4.o.fs HZ.o)
  obtain⟨c0,c1,c2,c3,c4⟩:=HEb.o.cells;obtain⟨s0,s1,s2,s3,s4⟩:=bH HS.o;have v1:IntKind.i64.wrap (-(a:Int)) = -(a:Int):=IntWalk.i64_in _ (by omega);have v2:IntKind.i64.wrap (-(b:Int)) = -(b:Int):=IntWalk.i64_in _ (by omega);have v3:IntKind.i64.wrap (-(c:Int)) = -(c:Int):=IntWalk.i64_in _ (by omega);have v4:IntKind.i64.wrap (-(d:Int)) = -(d:Int):=IntWalk.i64_in _ (by omega);have v5:IntKind.i64.wrap (b:Int)=(b:Int):=IntWalk.i64_in _ (by omega);have v6:IntKind.i64.wrap (c:Int)=(c:Int):=IntWalk.i64_in _ (by omega);go_upto_region 5 with fail
  go_cut [52] (fun _ wx=>∃ vf vs:Value,Hid (Eb wx g vf vs vp vq n)∧Hid (St4 B wx vf vs vp vq f s (a*P+b*Q) (c*P+d*Q))∧Hid (Sb wx k a b c d true)∧Hid (Below B w wx))
  case first =>
   go_region_with (go_at_call 230;go_must (refine HBl.o.mono ?_;rintro e w2 ⟨u1,u2,rfl,o1,o2,ap,n1,n2,hk⟩;obtain⟨r1,r2,r3,r4⟩:=H4.o.blendFS HEb.o HS.o HZ.o o1 o2 ap n1 n2 (Kp.undrew hk);obtain⟨x1,y1,rfl⟩:=aW o1.rd;obtain⟨x2,y2,rfl⟩:=aW o2.rd;have R1:=hid r1;have R2:=hid r2;have R3:=hid r3;have R4:=hid r4;obtain⟨d0,d1,d2,d3,d4⟩:=r2.cells;have f0:=r2.free 0;have f1:=r2.free 1;clear o1 o2 ap n1 n2 hk r1 r2 r3 r4))
   all_goals
        have K:=(ik (w:=w2) g 0 (.slice x1 (ae f).length y1)).trans (ik g 1 (.slice x2 (ae s).length y2)) (fun _ _ h=>h);obtain ⟨E',L'⟩:=aB (R2.o.set01 (.slice x1 (ae f).length y1) (.slice x2 (ae s).length y2)) (R1.o.stored R2.o K);have S':=hid (yh R3.o K (fun e=>jG R2.o R3.o e.symm));have W':=hid (HW.o.trans (R4.o.trans (K.below (Nat.le_trans HZ.o R4.o.size) (fun _ e=>e▸HBg.o))));clear d0 d1 d2 d3 d4 f0 f1 K;go_wp2_with fail
        go_meet
        exact⟨_,_,E',L',S',W'⟩
  case rest =>
   clear HEb H4 HS HW HZ c0 c1 c2 c3 c4 HBl s0 s1 s2 s3 s4 v1 v2 v3 v4 v5 v6;obtain⟨vf,vs,HEb,H4,HS,HW⟩:=hcut;obtain⟨c0,c1,c2,c3,c4⟩:=HEb.o.cells;obtain⟨s0,s1,s2,s3,s4⟩:=bH HS.o;have f4:=HEb.o.free 4;go_wp2;go_region
   all_goals
        clear c0 c1 c2 c3 c4 s0 s1 s2 s3 s4 f4;go_wp2;go_end0
        have K:Kp (fun k=>k=g) wc (wc.setCell ⟨g,4,none⟩ (.bool (!n))).drew:=(ik g 4 (.bool (!n))).drew;refine⟨rfl,⟨vf,vs,vp,vq,?_,HBg.o,H4.o.stored HEb.o K⟩,HW.o.trans (K.below (Nat.le_trans HB.o HW.o.size) (fun _ e=>e▸HBg.o))⟩;have E:=HEb.o.set4 (!n);have e:(n != true)=(!n):=by cases n<;>rfl
        rw[e];exact E
open Go.ChangeShapes Go.WideShapes Go.ChangeAt Go.WideMaps Go.WideElems Go.RowKit
theorem z4k:Tryz.prog.globalNamed "garboard/integer.zero" = some 0:=by kernel_rfl
theorem z0u:(Tryz.prog.globals[0]?).map (·.type)=some 160:=by kernel_rfl
def jE:List (String × DataW Unit):=[("math/bits.deBruijn32tab",Rows.laid_math_bits_deBruijn32tab),("math/bits.deBruijn64tab",Rows.laid_math_bits_deBruijn64tab),("internal/strconv.uint64pow10",Rows.laid_internal_strconv_uint64pow10),("strconv.ErrRange",Rows.laid_strconv_ErrRange),("strconv.ErrSyntax",Rows.laid_strconv_ErrSyntax),("garboard/integer.zero",Rows.laid_garboard_integer_zero)]
theorem yB {W:World}(h:laidMetH Tryz.prog jE W):La W:=by
 rw[MakeChecks.laidMetH_plain _ _ _ (by kernel_rfl)]at h;obtain⟨ps,⟨g0,t0,cs0,f0,p0,q0,hg0,ht0,hv0,hd0,⟨g1,t1,cs1,f1,p1,q1,hg1,ht1,hv1,hd1,⟨g2,t2,cs2,f2,p2,q2,hg2,ht2,hv2,hd2,⟨g3,t3,cs3,f3,p3,q3,hg3,ht3,hv3,hd3,⟨g4,t4,cs4,f4,p4,q4,hg4,ht4,hv4,hd4,⟨g5,t5,cs5,f5,p5,q5,hg5,ht5,hv5,hd5,_,_⟩,_⟩,_⟩,_⟩,_⟩,_⟩,_,_⟩:=h;obtain rfl:=Option.some.inj (gTab.symm.trans hg2);obtain rfl:=Option.some.inj (z2t.symm.trans ht2);obtain rfl:=Option.some.inj (z4k.symm.trans hg5);obtain rfl:=Option.some.inj (z0u.symm.trans ht5);refine⟨?_,?_⟩
 · unfold Tb Lib.TabIs
   rw[hv2];congr 1
   apply Array.ext'
   rw[Lib.cells_of_tab (k:=.u64) (zs:=Lib.pow10Tab) underlying185 underlying131 z2S z2T hd2]
 · obtain⟨k0,k1,hu,e0,o0,e1,o1⟩:∃ k0 k1:Field,Tryz.prog.underlying 160=some (.struct #[k0,k1])∧k0.type=3∧k0.offset=0∧k1.type=9∧k1.offset=1:=⟨_,_,underlying160,rfl,rfl,rfl,rfl⟩
   obtain⟨y0,y1,n,hx,hlen,h0,h1⟩:=trod_struct2 hu hd5;rw[e0,o0]at h0;rw[e1,o1]at h1;obtain⟨m,hc0,hy0,_⟩:=DataW.trod_int underlying3 h0;obtain⟨s,hc1,hy1,_⟩:=DataW.trod_string underlying9 h1;subst hy0 hy1;have hc:Tryz.prog.cellsOf 160=2:=by kernel_rfl
   have hci:Tryz.prog.cellsOf 3=1:=by kernel_rfl
   have hcs:Tryz.prog.cellsOf 9=1:=by kernel_rfl
   rw[hc]at hlen;rw[hci]at hc0;rw[hcs]at hc1
   have hd:m=0∧s.data.toList=[48]:=by
    have:=congrArg Prod.fst hx;simpa [Rows.laid_garboard_integer_zero,eq_comm] using this
   obtain⟨rfl,hs⟩:=hd
   have hs':s=⟨#[48]⟩:=by
    cases s with
    | mk d=>exact congrArg ByteArray.mk (Array.ext' hs)
   subst hs'
   have hl:cs5.toList=[.int .i64 0,.string ⟨#[48]⟩]:=by
    match hcs5:cs5.toList,hlen with
    | [a,b],_ =>
      rw[hcs5]at hc0 hc1;simp at hc0 hc1
      rw[hc0,hc1]
   have g0':=World.var?_cell z4k hv5 0;have g1':=World.var?_cell z4k hv5 1;have ha:cs5=#[.int .i64 0,.string ⟨#[48]⟩]:=Array.ext' hl;rw[ha]at g0' g1';have c0:W.cell? ⟨0,0,none⟩=some (.int .i64 0):=by simpa using g0'
   have c1:W.cell? ⟨0,1,none⟩=some (.string ⟨#[48]⟩):=by simpa using g1'
   exact⟨World.block_lt_of_cell? W _ c0,c0,c1⟩
theorem z0L (os:Os)(args:Array Value):laidMetH Tryz.prog jE ((World.doorLaid Tryz.prog 4000 os).forCall (fun _ _=>0) ⟨#[],args,[]⟩).memory:=by
 rw[MakeChecks.laidMetH_plain _ _ _ (by kernel_rfl)];exact laidMet_of_run' 8 (by kernel_rfl) (by kernel_rfl)
end Go.Proofs.YteihfbkaieemdaaGreatDoor
namespace Go.Proofs.YteihfbkaieemdaaGreatDoor
open Go.ChangeShapes Go.WideShapes Go.ChangeAt Go.WideMaps Go.WideElems Go.RowKit Go.Gb Go.Joins
open Go.ChangeMaps (open_string shut_string)
theorem z04 {H:Type}{enc:TypeId × Value→H}{W:World}{base b0:Nat}{spare:Nat→Bool}{held:Bool}{r:Reach}{v:Value}{d:DataW H}{p:List MemPlace}
 (hv:Value.okWide Tryz.prog W r b0 24 v) (h:DataW.Trod enc Tryz.prog W base spare held 24 v d p) :
 ∃ l u:ByteArray,v=.agg #[.string l,.string u]∧d=.agg [.lit (.string l.data.toList),.lit (.string u.data.toList)]∧p=[]∧l.size≤maxLen∧u.size≤maxLen:=by
 obtain⟨c0,c1,y0,y1,m,rfl,rfl,rfl,hy0,hy1⟩:=open_agg2 underlying24 (by kernel_rfl) (by kernel_rfl) hv h;obtain⟨l,e0,rfl,wl⟩:=DataW.trod_string underlying22 hy0;obtain⟨u,e1,rfl,wu⟩:=DataW.trod_string underlying22 hy1;simp at e0 e1
 subst e0 e1;exact⟨l,u,rfl,rfl,rfl,wl,wu⟩
