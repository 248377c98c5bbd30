/- texts -/
import Derived.Test.YtbcnefnbkdbobaaGreatDoorMz13q
import Derived.Test.YtbcnefnbkdbobaaGreatDoorMz14q
open Go.Proofs.Tryz
set_option maxRecDepth 100000
set_option maxHeartbeats 20000000
open Go.Lib (hid)
namespace Go.Proofs.YtbcnefnbkdbobaaGreatDoor
open Go.RowKit Go.Gb
theorem xe (v1 v2:Value)(a b:Nat)(hab:b≤a)(hla:(aa a).length≤100000)(w:World)(h1:Rd .u32 w v1 (aa a))(h2:Rd .u32 w v2 (aa b)) :
 Calls Tryz.prog 136 #[v1,v2] w fun e w'=>∃ v,e=.returned v∧Own .u32 89 w.heap.size w' v (aa (a-b))∧Below w.heap.size w w':=by
 obtain⟨i0,hi,hz0,hz1,hz2⟩:=info_parts Tryz.info89;have hlb:=aJ hab;obtain⟨p1,c1,rfl,r1⟩:=h1.gen;obtain⟨p2,c2,rfl,r2⟩:=h2.gen;have hx:=aN a;have hy:=aN b;have hva:=ak a;have hvb:=ak b;generalize aa a=xs at *;generalize aa b=ys at *;obtain ⟨HR1,HR2,HX,HY,HVA,HVB,HAB,HO0⟩:=gQ r1 r2 hx hy hva hvb hab (World.ownsRow_nil w w.heap.size 89 1);clear h1 h2 r1 r2 hx hy hva hvb hab;go_enter func136,ntmps136
 go_wp2;go_loopw [5,6,7,8] (fun v cc ii _ wr=>∃ (i k:Nat) (os:List Nat),i≤xs.length∧ii=.int .i64 i∧cc=.int .i64 (k:Int)∧os.length=i∧Hid (wr.ownsRow w.heap.size 89 1 v os.length (cls .u32 os))∧Hid (dR xs ys os i k)∧Hid (Below w.heap.size w wr)) (fun _ _ ii _ _=>xs.length-(intOf ii).toNat)
 case atStart=>exact⟨0,0,[],by omega,rfl,rfl,rfl,HO0,dR.start xs ys,Below.refl _ _⟩
 case round =>
  obtain⟨i,k,os,hiM,rfl,rfl,hol,ho,hI,hn⟩:=hrel;have hk1:k≤1:=hI.o.2.2.1;have hk9:(k:Int)≤1:=by omega
  by_cases hxi:i<xs.length
  · obtain⟨b1,o1,rfl,hb1,hc1⟩:=HR1.o i hxi
    have hcx:=(hn.o.cell (p:=⟨b1,o1+i,none⟩) hb1).trans hc1;have hxB:=gU HX.o i;have hyB:=gU HY.o i;have j1:(i:Int)<(xs.length:Int):=by omega
    have d1:decide ((i:Int)<(xs.length:Int))=true:=decide_eq_true j1;have hsm:=hI.o.small hxB;have hbg:=hI.o.big hyB;have hol2:os.length≤100000:=by omega
    have i1:(i:Int)≤100000:=by omega
    clear hb1 hc1 hI;by_cases hyi:i<ys.length
    · obtain⟨b2,o2,rfl,hb2,hc2⟩:=HR2.o i hyi
      have hcy:=(hn.o.cell (p:=⟨b2,o2+i,none⟩) hb2).trans hc2;have j2:(i:Int)<(ys.length:Int):=by omega
      have d2:decide ((i:Int)<(ys.length:Int))=true:=decide_eq_true j2;clear hb2 hc2;generalize xs.getD i 0=x at *;generalize ys.getD i 0=y at *;rw[aC]at hxB hyB;have hx9:(x:Int)≤999999999:=by omega
      have hy9:(y:Int)≤999999999:=by omega
      clear hxB hyB;by_cases hng:x<y+k
      · obtain⟨lo,hlo⟩:∃ lo:Nat,lo=x+BB-(y+k):=⟨_,rfl⟩
        have HST:=hid (show dR xs ys (os++[lo]) (i+1) 1 by rw[hlo];exact hbg (by omega));have hval:(x:Int)-(k:Int)-(y:Int)+1000000000=(lo:Int):=by rw[hlo,aC];omega
        have hneg:(x:Int)-(k:Int)-(y:Int)<0:=by omega
        have hlo9:(lo:Int)≤999999999:=by rw[aC]at hlo;omega
        clear hlo hsm hbg hng;go_wp2_with (at_builtin;refine wpList_append_own _ rfl _ _ 49 rfl w.heap.size 89 i0 (.int .u32 0) 1 4 underlying49 hi hz0 hz1 hz2 rfl (by decide) _ _ _ rfl (ho.o.alloc _) ⟨wr.heap.size,0,none⟩ 1 1 [.int .u32 (lo:Int)] rfl rfl (cells_one _ _ _) (by intro u hu;simp at hu;subst hu;rfl) (by unfold maxLen;omega) (by omega) (by have:=hn.o.size;simp;omega) ?_)
        intro v' w1 hown' hgrow _;have HO:=hid hown';have HN:=hid ((hn.o.alloc hn.o.size _).grown hgrow (by have:=hn.o.size;simp;omega) (fun k hk=>(ho.o.lt k hk).1));clear hown' hgrow;go_wp2;go_roundw
        case rel=>exact⟨i+1,1,os++[lo],by omega,by go_num,rfl,by simp[hol],by have:=HO.o;rw[bQ,List.length_append,hol];exact this,HST,HN⟩
        case measure=>simp[intOf];omega
      · obtain⟨lo,hlo⟩:∃ lo:Nat,lo=x-(y+k):=⟨_,rfl⟩
        have HST:=hid (show dR xs ys (os++[lo]) (i+1) 0 by rw[hlo];exact hsm (by omega));have hval:(x:Int)-(k:Int)-(y:Int)=(lo:Int):=by rw[hlo];omega
        have hneg:decide ((lo:Int)<0)=false:=decide_eq_false (by omega);have hlo9:(lo:Int)≤999999999:=by omega
        clear hlo hsm hbg hng;go_wp2_with (at_builtin;refine wpList_append_own _ rfl _ _ 49 rfl w.heap.size 89 i0 (.int .u32 0) 1 4 underlying49 hi hz0 hz1 hz2 rfl (by decide) _ _ _ rfl (ho.o.alloc _) ⟨wr.heap.size,0,none⟩ 1 1 [.int .u32 (lo:Int)] rfl rfl (cells_one _ _ _) (by intro u hu;simp at hu;subst hu;rfl) (by unfold maxLen;omega) (by omega) (by have:=hn.o.size;simp;omega) ?_)
        intro v' w1 hown' hgrow _;have HO:=hid hown';have HN:=hid ((hn.o.alloc hn.o.size _).grown hgrow (by have:=hn.o.size;simp;omega) (fun k hk=>(ho.o.lt k hk).1));clear hown' hgrow;go_wp2;go_roundw
        case rel=>exact⟨i+1,0,os++[lo],by omega,by go_num,rfl,by simp[hol],by have:=HO.o;rw[bQ,List.length_append,hol];exact this,HST,HN⟩
        case measure=>simp[intOf];omega
    · have d2:decide ((i:Int)<(ys.length:Int))=false:=decide_eq_false (by omega)
      rw[jJ (xs:=ys) (by omega)]at hsm hbg;clear hyB;generalize xs.getD i 0=x at *;rw[aC]at hxB;have hx9:(x:Int)≤999999999:=by omega
      clear hxB;by_cases hng:x<0+k
      · obtain⟨lo,hlo⟩:∃ lo:Nat,lo=x+BB-(0+k):=⟨_,rfl⟩
        have HST:=hid (show dR xs ys (os++[lo]) (i+1) 1 by rw[hlo];exact hbg (by omega));have hval:(x:Int)-(k:Int)+1000000000=(lo:Int):=by rw[hlo,aC];omega
        have hneg:(x:Int)-(k:Int)<0:=by omega
        have hlo9:(lo:Int)≤999999999:=by rw[aC]at hlo;omega
        clear hlo hsm hbg hng;go_wp2_with (at_builtin;refine wpList_append_own _ rfl _ _ 49 rfl w.heap.size 89 i0 (.int .u32 0) 1 4 underlying49 hi hz0 hz1 hz2 rfl (by decide) _ _ _ rfl (ho.o.alloc _) ⟨wr.heap.size,0,none⟩ 1 1 [.int .u32 (lo:Int)] rfl rfl (cells_one _ _ _) (by intro u hu;simp at hu;subst hu;rfl) (by unfold maxLen;omega) (by omega) (by have:=hn.o.size;simp;omega) ?_)
        intro v' w1 hown' hgrow _;have HO:=hid hown';have HN:=hid ((hn.o.alloc hn.o.size _).grown hgrow (by have:=hn.o.size;simp;omega) (fun k hk=>(ho.o.lt k hk).1));clear hown' hgrow;go_wp2;go_roundw
        case rel=>exact⟨i+1,1,os++[lo],by omega,by go_num,rfl,by simp[hol],by have:=HO.o;rw[bQ,List.length_append,hol];exact this,HST,HN⟩
        case measure=>simp[intOf];omega
      · obtain⟨lo,hlo⟩:∃ lo:Nat,lo=x-(0+k):=⟨_,rfl⟩
        have HST:=hid (show dR xs ys (os++[lo]) (i+1) 0 by rw[hlo];exact hsm (by omega));have hval:(x:Int)-(k:Int)=(lo:Int):=by rw[hlo];omega
        have hneg:decide ((lo:Int)<0)=false:=decide_eq_false (by omega);have hlo9:(lo:Int)≤999999999:=by omega
        clear hlo hsm hbg hng;go_wp2_with (at_builtin;refine wpList_append_own _ rfl _ _ 49 rfl w.heap.size 89 i0 (.int .u32 0) 1 4 underlying49 hi hz0 hz1 hz2 rfl (by decide) _ _ _ rfl (ho.o.alloc _) ⟨wr.heap.size,0,none⟩ 1 1 [.int .u32 (lo:Int)] rfl rfl (cells_one _ _ _) (by intro u hu;simp at hu;subst hu;rfl) (by unfold maxLen;omega) (by omega) (by have:=hn.o.size;simp;omega) ?_)
        intro v' w1 hown' hgrow _;have HO:=hid hown';have HN:=hid ((hn.o.alloc hn.o.size _).grown hgrow (by have:=hn.o.size;simp;omega) (fun k hk=>(ho.o.lt k hk).1));clear hown' hgrow;go_wp2;go_roundw
        case rel=>exact⟨i+1,0,os++[lo],by omega,by go_num,rfl,by simp[hol],by have:=HO.o;rw[bQ,List.length_append,hol];exact this,HST,HN⟩
        case measure=>simp[intOf];omega
  · have d1:decide ((i:Int)<(xs.length:Int))=false:=decide_eq_false (by omega)
    obtain rfl:i=xs.length:=by omega
    obtain⟨hv,hB⟩:=hI.o.done hlb (by rw[HVA.o,HVB.o];exact HAB.o);have htr:=gp 89 w.heap.size _ os hB wr ho.o;rw[hv,HVA.o,HVB.o]at htr;have HTR:=hid htr;clear hv hB htr hI;go_wp2_with fail
    refine HTR.o.mono ?_;rintro e w2 ⟨v',rfl,hown,rfl⟩;go_wp2;go_ret
    exact⟨v',rfl,hown,hn.o⟩
end Go.Proofs.YtbcnefnbkdbobaaGreatDoor
namespace Go.Gb
def TI (x y os:List Nat) (i:Nat):Prop:=os.length=x.length+y.length∧(∀ w∈os,w<BB)∧ag os=ag (x.take i)*ag y
def TR (x y os:List Nat) (i k c:Nat):Prop:=os.length=x.length+y.length∧(∀ w∈os,w<BB)∧c<BB∧os.getD (i+y.length) 0=0∧ag os+BB^(i+k)*c=ag (x.take i)*ag y+BB^i*(x.getD i 0*ag (y.take k))
theorem z1h {os:List Nat}{m v:Nat}(h:∀ w∈os,w<BB)(hv:v<BB):∀ w∈os.set m v,w<BB:=by
 intro w hw;rcases List.mem_or_eq_of_mem_set hw with hw|hw
 · exact h w hw
 · rw[hw];exact hv
theorem yQ {os:List Nat}{m:Nat}(h:ag os<BB^m):os.getD m 0=0:=by
 by_cases hm:m<os.length
 · have h1:=cZ os m (by omega)
   rw[fV hm]at h1;rcases Nat.eq_zero_or_pos (os.getD m 0) with h2|h2
   · exact h2
   · have:BB^m*1≤BB^m*(os.getD m 0+BB*ag (os.drop (m+1))):=Nat.mul_le_mul_left _ (by omega)
     omega
 · exact jJ (by omega)
theorem TI.start (x y:List Nat):TI x y (List.replicate (x.length+y.length) 0) 0:=by
 refine⟨by simp,fun w hw=>by rw[(List.mem_replicate.1 hw).2];exact bD,?_⟩;have:=ek [] (x.length+y.length);simpa [ag] using this
theorem TI.row {x y os:List Nat}{i:Nat}(h:TI x y os i)(hi:i<x.length)(hx:∀ w∈x,w<BB)(hy:∀ w∈y,w<BB):TR x y os i 0 0:=by
 obtain⟨h1,h2,h3⟩:=h;refine⟨h1,h2,bD,yQ ?_,by rw[h3,Nat.mul_zero,Nat.add_zero,List.take_zero];simp[ag]⟩;have l1:=bJ (n:=i) (xs:=x.take i) (fun w hw=>hx w (List.mem_of_mem_take hw)) (by simp;omega);have l2:=dS y hy;rw[h3,Nat.pow_add];exact Nat.mul_lt_mul_of_lt_of_le l1 (Nat.le_of_lt l2) (Nat.pow_pos bD)
theorem TR.bound {o a b c:Nat}(ho:o<BB)(ha:a<BB)(hb:b<BB)(hc:c<BB):a*b≤999999998000000001∧o+a*b+c<BB*BB:=by
 have h:=oG ha hb;refine⟨h,?_⟩;rw[aC]at *;omega
theorem TR.step {x y os:List Nat}{i k c:Nat}(h:TR x y os i k c)(hi:i<x.length)(hk:k<y.length)(hx:∀ w∈x,w<BB)(hy:∀ w∈y,w<BB) :
 TR x y (os.set (i+k) ((os.getD (i+k) 0+x.getD i 0*y.getD k 0+c)%BB)) i (k+1) ((os.getD (i+k) 0+x.getD i 0*y.getD k 0+c) / BB):=by
 obtain⟨h1,h2,h3,h4,h5⟩:=h;have hb:=(TR.bound (h2 _ (aU (i:=i+k) (by omega))) (hx _ (aU hi)) (hy _ (aU hk)) h3).2;have hm:=Nat.div_add_mod (os.getD (i+k) 0+x.getD i 0*y.getD k 0+c) BB;have hs:=oF (xs:=os) (i:=i+k) (v:=(os.getD (i+k) 0+x.getD i 0*y.getD k 0+c)%BB) (by omega);refine⟨by simp[h1],z1h h2 (Nat.mod_lt _ bD),(Nat.div_lt_iff_lt_mul bD).2 hb,?_,?_⟩
 · rw[kg,if_neg (by omega)];exact h4
 · rw[aF y k,Nat.mul_add (x.getD i 0),Nat.mul_add (BB^i)]
   rw[show BB^i*(x.getD i 0*(BB^k*y.getD k 0))=BB^(i+k)*(x.getD i 0*y.getD k 0) by rw[Nat.pow_add,Nat.mul_left_comm (x.getD i 0),Nat.mul_assoc]];rw[← Nat.add_assoc i k 1,Nat.pow_succ,Nat.mul_assoc];generalize (os.getD (i+k) 0+x.getD i 0*y.getD k 0+c)%BB=lo at *;generalize (os.getD (i+k) 0+x.getD i 0*y.getD k 0+c) / BB=q at *;have e:=congrArg (BB^(i+k) * ·) hm;simp only[Nat.mul_add]at e;omega
theorem TR.next {x y os:List Nat}{i c:Nat}(h:TR x y os i y.length c)(hi:i<x.length):TI x y (os.set (i+y.length) c) (i+1):=by
 obtain⟨h1,h2,h3,h4,h5⟩:=h;have hs:=oF (xs:=os) (i:=i+y.length) (v:=c) (by omega);rw[h4,Nat.mul_zero,Nat.add_zero]at hs;refine⟨by simp[h1],z1h h2 h3,?_⟩;rw[hs,h5,List.take_of_length_le (Nat.le_refl _),aF x i,Nat.add_mul,Nat.mul_assoc]
theorem TI.done {x y os:List Nat}(h:TI x y os x.length):ag os=ag x*ag y:=by rw[h.2.2,List.take_of_length_le (Nat.le_refl _)]
end Go.Gb
namespace Go.Proofs.YtbcnefnbkdbobaaGreatDoor
open Go.RowKit Go.Gb
def Blk4 (w:World) (g:Nat) (zs:List Nat):Prop:=w.heap[g]? = some (.cells (cls .u32 zs).toArray 89 (0,0))
theorem Blk4.cell {w:World}{g:Nat}{zs:List Nat}(h:Blk4 w g zs){i:Nat}(hi:i<zs.length):w.cell? ⟨g,i,none⟩=some (.int .u32 ((zs.getD i 0:Nat):Int)):=by
 unfold Blk4 at h
 have:=jf (k:=.u32) hi;simp only[World.cell?,h];simpa using this
theorem Blk4.free {w:World}{g:Nat}{zs:List Nat}(h:Blk4 w g zs)(i:Nat):w.frozen? ⟨g,i,none⟩=false:=by
 unfold Blk4 at h
 simp only[World.frozen?,h];simp
theorem Blk4.set {w:World}{g:Nat}{zs:List Nat}(h:Blk4 w g zs)(i v:Nat):Blk4 (w.setCell ⟨g,i,none⟩ (.int .u32 ((v:Nat):Int))) g (zs.set i v):=by
 unfold Blk4 at *
 simp only[World.setCell,Array.getElem?_modify,h];simp[qd]
theorem Blk4.below {w w':World}{g:Nat}{zs:List Nat}(h:Blk4 w g zs)(hb:Below w.heap.size w w'):Blk4 w' g zs:=by
 unfold Blk4 at *
 rw[hb.block g (Array.getElem?_eq_some_iff.1 h).1];exact h
theorem Blk4.own {w:World}{g B:Nat}{zs:List Nat}(h:Blk4 w g zs)(hB:B≤g)(hm:zs.length≤maxLen):Own .u32 89 B w (.slice (some ⟨g,0,none⟩) zs.length zs.length) zs:=by
 refine⟨by simp[cls],Or.inr ⟨g,zs.length,(cls .u32 zs).toArray,rfl,hB,h,Nat.le_refl _,hm,by simp[cls],?_⟩⟩;rw[Nat.mul_one,← lN,List.take_of_length_le (Nat.le_refl _)]
theorem Blk4.of_made {w:World}{B g n:Nat}{xs:List Value}{zs:List Nat}(h:w.ownsRow B 89 1 (.slice (some ⟨g,0,none⟩) n n) n xs)(hx:xs=cls .u32 zs):Blk4 w g zs:=by
 obtain⟨h1,h2⟩:=h;rcases h2 with⟨h2,_⟩|⟨g',cap,cur,hv,hg,hh,hn,hc,hs,ht⟩
 · cases h2
 · injection hv with e1 e2 e3
   injection e1 with e1
   injection e1 with e4 e5 e6
   subst e4 e3;unfold Blk4
   rw[hh];rw[Nat.mul_one]at ht hs;rw[List.take_of_length_le (by simpa using Nat.le_of_eq hs)]at ht;congr 2
   rw[← hx,← ht]
open Go.Lib (hid)
theorem iK (n:Nat):(madeCells #[Value.int .u32 0] n).toList=cls .u32 (List.replicate n 0):=by
 apply List.ext_getElem
 · simp[size_madeCells,cls]
 · intro i h1 h2
   simp[madeCells,cls,Nat.mod_one]
theorem uy (b1 o1 c1 b2 o2 c2:Nat)(xs ys:List Nat)(hxp:0<xs.length)(hyp:0<ys.length)(hxl:xs.length≤100000)(hyl:ys.length≤100000)(hx:∀ x∈xs,x<BB)(hy:∀ y∈ys,y<BB)(w:World)(hb1:b1<w.heap.size)(hb2:b2<w.heap.size)
 (hcx:∀ i,i<xs.length→w.cell? ⟨b1,o1+i,none⟩=some (.int .u32 ((xs.getD i 0:Nat):Int))) (hcy:∀ i,i<ys.length→w.cell? ⟨b2,o2+i,none⟩=some (.int .u32 ((ys.getD i 0:Nat):Int))) :
 Calls Tryz.prog 63 #[.slice (some ⟨b1,o1,none⟩) xs.length c1,.slice (some ⟨b2,o2,none⟩) ys.length c2] w fun e w'=>∃ v,e=.returned v∧Own .u32 89 w.heap.size w' v (aa (ag xs*ag ys))∧Below w.heap.size w w':=by
 obtain⟨i0,hi,hz0,hz1,hz2⟩:=info_parts Tryz.info89;obtain ⟨HX,HY,HCX,HCY⟩:=aP hx hy hcx hcy;have d1:((xs.length:Int)==0)=false:=beq_eq_false_iff_ne.2 (by omega);have d2:((ys.length:Int)==0)=false:=beq_eq_false_iff_ne.2 (by omega);clear hx hy hcx hcy;go_enter func63,ntmps63
 go_wp2_with (at_make;refine wpList_make_full _ rfl _ _ 49 rfl w.heap.size 89 i0 (.int .u32 0) 1 underlying49 hi hz0 hz1 _ _ _ _ (xs.length+ys.length) rfl rfl (by omega) (by omega) ?b2 ?b3 (Nat.le_refl _) ?_)
 case b2=>rw[hz2];omega
 case b3=>unfold maxLen;omega
 intro w0 hown0 hgrow0;have u6:=hid (show Blk4 w0 w.heap.size (List.replicate (xs.length+ys.length) 0) from Blk4.of_made hown0 (iK _));have HN0:=hid ((Below.refl w.heap.size w).grown hgrow0 (Nat.le_refl _) (fun k h=>by cases h));clear hown0 hgrow0;go_wp2;go_loopw [6,7,8,9] (fun ii _ _ _ wr=>∃ (i:Nat) (os:List Nat),i≤xs.length∧ii=.int .i64 i∧Hid (TI xs ys os i)∧Hid (Blk4 wr w.heap.size os)∧Hid (Below w.heap.size w wr)) (fun ii _ _ _ _=>xs.length-(intOf ii).toNat)
 case atStart=>exact⟨0,_,Nat.zero_le _,rfl,TI.start xs ys,u6,HN0⟩
 case round =>
  obtain⟨i,os,hi',rfl,hT,hB,hn⟩:=hrel;by_cases hlt:i<xs.length
  · have HR:=hid (hT.o.row hlt HX.o HY.o)
    have i1:(i:Int)<(xs.length:Int):=by omega
    clear hT;go_wp2;obtain⟨wo,rfl⟩:∃ wo:World,wo=wr:=⟨_,rfl⟩;go_loopw [7,8,9] (fun cc kk _ wr=>∃ (k c:Nat) (os:List Nat),k≤ys.length∧kk=.int .i64 k∧cc=.int .u64 (c:Int)∧Hid (TR xs ys os i k c)∧Hid (Blk4 wr w.heap.size os)∧Hid (Below w.heap.size w wr)) (fun _ kk _ _=>ys.length-(intOf kk).toNat)
    case atStart=>exact⟨0,0,os,Nat.zero_le _,rfl,rfl,HR,hB,hn⟩
    case round =>
        clear HR hB hn;obtain⟨k,c,os,hk',rfl,rfl,hR,hB,hn⟩:=hrel;have hol:=hR.o.1;have hcB:=hR.o.2.2.1;rw[aC]at hcB;have hc9:(c:Int)≤999999999:=by omega
        by_cases hkt:k<ys.length
        · have hst:=hR.o.step hlt hkt HX.o HY.o
          have hbd:=TR.bound (hR.o.2.1 _ (aU (xs:=os) (i:=i+k) (by omega))) (HX.o _ (aU hlt)) (HY.o _ (aU hkt)) hR.o.2.2.1;have hoB:=hR.o.2.1 _ (aU (xs:=os) (i:=i+k) (by omega));have hxB:=HX.o _ (aU hlt);have hyB:=HY.o _ (aU hkt);have hco:=hB.o.cell (i:=i+k) (by omega);have hcx:=(hn.o.cell (p:=⟨b1,o1+i,none⟩) hb1).trans (HCX.o i hlt);have hcy:=(hn.o.cell (p:=⟨b2,o2+k,none⟩) hb2).trans (HCY.o k hkt);have hset:=hB.o.set (i+k) ((os.getD (i+k) 0+xs.getD i 0*ys.getD k 0+c)%BB);have hfr:=hB.o.free (i+k);have j1:(k:Int)<(ys.length:Int):=by omega
          have j2:(i:Int)+(k:Int)<(xs.length:Int)+(ys.length:Int):=by omega
          generalize os.getD (i+k) 0=o at *;generalize xs.getD i 0=x at *;generalize ys.getD k 0=y at *;obtain⟨p,hp⟩:∃ p:Nat,p=x*y:=⟨_,rfl⟩;have e1:(x:Int)*(y:Int)=(p:Int):=by rw[hp];exact(Int.natCast_mul _ _).symm
          rw[← hp]at hbd hst hset;obtain⟨lo,hlo⟩:∃ lo:Nat,lo=(o+p+c)%BB:=⟨_,rfl⟩;obtain⟨q,hq⟩:∃ q:Nat,q=(o+p+c) / BB:=⟨_,rfl⟩;rw[← hlo,← hq]at hst;rw[← hlo]at hset;rw[aC]at hoB hxB hyB;have hp9:(p:Int)≤999999998000000001:=by omega
          have ho9:(o:Int)≤999999999:=by omega
          have w1:IntKind.u64.wrap (p:Int)=(p:Int):=IntWalk.u64_in _ (by omega);have hmod:((o:Int)+(p:Int)+(c:Int))%1000000000=(lo:Int):=by rw[hlo,aC];omega
          have hdiv:((o:Int)+(p:Int)+(c:Int)) / 1000000000=(q:Int):=by rw[hq,aC];omega
          have hlo9:(lo:Int)≤999999999:=by rw[aC]at hlo;omega
          have hx9:(x:Int)≤999999999:=by omega
          have hy9:(y:Int)≤999999999:=by omega
          have HST:=hid hst;have HSET:=hid (fun nq=>(show Blk4 ((wr.drewN nq).setCell ⟨w.heap.size,i+k,none⟩ (.int .u32 (lo:Int))) w.heap.size (os.set (i+k) lo) from hset));have HNN:=hid (fun nq=>(below_drewN' hn.o nq).setCell (p:=⟨w.heap.size,i+k,none⟩) (Nat.le_refl _) (.int .u32 (lo:Int)));have hco':∀ nq,(wr.drewN nq).cell? ⟨w.heap.size,i+k,none⟩=some (.int .u32 (o:Int)):=fun _=>hco;have hfr':∀ nq,(wr.drewN nq).frozen? ⟨w.heap.size,i+k,none⟩=false:=fun _=>hfr;clear hst hset hbd hlo hq hp hoB hxB hyB hcB hR hB hn;go_wp2;go_quiet (fail)
          have hco2:=hco' nq;have hfr2:=hfr' nq;obtain ⟨HSET2,HNN2⟩:=aI (HSET.o nq) (HNN.o nq);clear hco hfr hcx hcy hco' hfr' HSET HNN;generalize wr.drewN nq=w2 at *;go_wp2;go_roundw
          case rel=>exact⟨k+1,q,os.set (i+k) lo,by omega,by go_num,bU hdiv,HST,HSET2,HNN2⟩
          case measure=>simp[intOf];omega
        · obtain rfl:k=ys.length:=by omega
          have hnx:=hR.o.next hlt;have hset:=hB.o.set (i+ys.length) c;have hco:=hB.o.cell (i:=i+ys.length) (by omega);have hfr:=hB.o.free (i+ys.length);obtain ⟨HNX,HSET⟩:=aI hnx hset;have HN2:=hid (hn.o.setCell (p:=⟨w.heap.size,i+ys.length,none⟩) (Nat.le_refl _) (.int .u32 (c:Int)));have j2:(i:Int)+(ys.length:Int)<(xs.length:Int)+(ys.length:Int):=by omega
          clear hnx hset hR hB hn hcB;generalize os.getD (i+ys.length) 0=o at *;go_wp2;go_roundw
          case rel=>exact⟨i+1,os.set (i+ys.length) c,by omega,by go_num,HNX,HSET,HN2⟩
          case measure=>simp[intOf];omega
  · obtain rfl:i=xs.length:=by omega
    have hv:=hT.o.done;have hol:=hT.o.1;have hown:=hB.o.own (B:=w.heap.size) (Nat.le_refl _) (by unfold maxLen;omega);rw[hol]at hown;have htr:=gp 89 w.heap.size _ os hT.o.2.1 wr hown;rw[hv]at htr;have HTR:=hid htr;clear hv hol hown htr hT hB;go_wp2_with fail
    refine HTR.o.mono ?_;rintro e w2 ⟨v',rfl,hown,rfl⟩;go_wp2;go_ret
    exact⟨v',rfl,hown,hn.o⟩
end Go.Proofs.YtbcnefnbkdbobaaGreatDoor
namespace Go.Gb
theorem z0Z {Yt Z V r P t c B:Nat}(hZ:Z<P)(hr:r<P)(hs:Yt+V=Z+P*c)(hY:Yt+P*t+V=r+P*B):c+t=B:=by
 have h:Z+P*(c+t)=r+P*B:=by rw[Nat.mul_add];omega
 have hP:0<P:=by omega
 have h1:=congrArg (· / P) h;simp only[Nat.add_mul_div_left _ _ hP,Nat.div_eq_of_lt hZ,Nat.div_eq_of_lt hr,Nat.zero_add]at h1;exact h1
end Go.Gb
namespace Go.Proofs.YtbcnefnbkdbobaaGreatDoor
open Go.RowKit Go.Gb
def Row4 (w:World) (g cap:Nat) (zs:List Nat):Prop:=∃ cur:Array Value,w.heap[g]? = some (.cells cur 89 (0,0))∧cur.size=cap∧zs.length≤cap∧cur.toList.take zs.length=cls .u32 zs
theorem Row4.lt {w:World}{g cap:Nat}{zs:List Nat}(h:Row4 w g cap zs):g<w.heap.size:=by
 obtain⟨cur,h1,_⟩:=h;exact(Array.getElem?_eq_some_iff.1 h1).1
theorem Row4.le {w:World}{g cap:Nat}{zs:List Nat}(h:Row4 w g cap zs):zs.length≤cap:=by
 obtain⟨cur,_,_,h3,_⟩:=h;exact h3
theorem Row4.cell {w:World}{g cap:Nat}{zs:List Nat}(h:Row4 w g cap zs){i:Nat}(hi:i<zs.length):w.cell? ⟨g,i,none⟩=some (.int .u32 ((zs.getD i 0:Nat):Int)):=by
 obtain⟨cur,h1,h2,h3,h4⟩:=h;have h5:=jf (k:=.u32) hi;rw[← h4,List.getElem?_take,if_pos hi]at h5;simp only[World.cell?,h1];simpa using h5
theorem Row4.free {w:World}{g cap:Nat}{zs:List Nat}(h:Row4 w g cap zs)(i:Nat):w.frozen? ⟨g,i,none⟩=false:=by
 obtain⟨cur,h1,h2,h3,h4⟩:=h;simp only[World.frozen?,h1];simp
theorem Row4.set {w:World}{g cap:Nat}{zs:List Nat}(h:Row4 w g cap zs)(i v:Nat):Row4 (w.setCell ⟨g,i,none⟩ (.int .u32 ((v:Nat):Int))) g cap (zs.set i v):=by
 obtain⟨cur,h1,h2,h3,h4⟩:=h;refine⟨cur.setIfInBounds i (.int .u32 (v:Int)),?_,by simp[h2],by simpa using h3,?_⟩
 · simp only[World.setCell,Array.getElem?_modify,h1]
   simp
 · rw[List.length_set,qd,← h4,Array.toList_setIfInBounds,List.take_set]
theorem Row4.aside {w:World}{g cap k i:Nat}{zs:List Nat}{v:Value}(h:Row4 w g cap zs)(hne:g≠k):Row4 (w.setCell ⟨k,i,none⟩ v) g cap zs:=by
 obtain⟨cur,h1,h2,h3,h4⟩:=h;exact⟨cur,by rw[Below.heap_setCell _ _ _ _ hne];exact h1,h2,h3,h4⟩
theorem Row4.below {w w':World}{g cap:Nat}{zs:List Nat}(h:Row4 w g cap zs)(hb:Below w.heap.size w w'):Row4 w' g cap zs:=by
 obtain⟨cur,h1,h2,h3,h4⟩:=h;exact⟨cur,by rw[hb.block g (Array.getElem?_eq_some_iff.1 h1).1];exact h1,h2,h3,h4⟩
theorem Row4.drewN {w:World}{g cap:Nat}{zs:List Nat}(h:Row4 w g cap zs)(n:Nat):Row4 (w.drewN n) g cap zs:=h
theorem Row4.take {w:World}{g cap:Nat}{zs:List Nat}(h:Row4 w g cap zs)(m:Nat)(hm:m≤zs.length):Row4 w g cap (zs.take m):=by
 obtain⟨cur,h1,h2,h3,h4⟩:=h;refine⟨cur,h1,h2,by simp;omega,?_⟩;rw[lN,← h4,List.take_take,List.length_take,Nat.min_eq_left hm]
theorem Row4.own {w:World}{g cap B:Nat}{zs:List Nat}(h:Row4 w g cap zs)(hB:B≤g)(hm:cap≤maxLen):Own .u32 89 B w (.slice (some ⟨g,0,none⟩) zs.length cap) zs:=by
 obtain⟨cur,h1,h2,h3,h4⟩:=h;refine⟨by simp[cls],Or.inr ⟨g,cap,cur,rfl,hB,h1,h3,hm,by simp[h2],?_⟩⟩;rw[Nat.mul_one];exact h4
theorem Row4.of_own {w:World}{B:Nat}{v:Value}{zs:List Nat}(h:Own .u32 89 B w v zs)(hp:0<zs.length):∃ g cap,v=.slice (some ⟨g,0,none⟩) zs.length cap∧B≤g∧cap≤maxLen∧Row4 w g cap zs:=by
 obtain⟨h1,h2⟩:=h;rcases h2 with⟨h2,h3⟩|⟨g,cap,cur,hv,hg,hh,hn,hc,hs,ht⟩
 · omega
 · rw[Nat.mul_one]at hs ht
   exact⟨g,cap,hv,hg,hc,cur,hh,hs,hn,ht⟩
open Go.Lib (hid)
theorem Blk4.alloc {w:World}(zs:List Nat)(cs:Array Value)(h:cs=(cls .u32 zs).toArray):Blk4 (w.alloc (.cells cs 89)) w.heap.size zs:=by
 unfold Blk4
 rw[heap_alloc_new,h]
theorem qH (zs:List Nat)(hB:∀ z∈zs,z<BB)(hl:zs.length≤10)(cs:Array Value)(h:cs=(cls .u32 zs).toArray)(n:Nat)(hn:n=zs.length)(w:World) :
 Calls Tryz.prog 78 #[.slice (some ⟨w.heap.size,0,none⟩) n n] (w.alloc (.cells cs 89)) fun e w'=>∃ v',e=.returned v'∧Own .u32 89 w.heap.size w' v' (aa (ag zs))∧w.alloc (.cells cs 89)=w':=by
 subst hn;exact(gp 89 w.heap.size _ zs hB _ ((Blk4.alloc zs cs h).own (Nat.le_refl _) (by unfold maxLen;omega))).mono fun e w' ⟨v',h1,h2,h3⟩=>⟨v',h1,h3▸h2,h3⟩
theorem uz (n:Nat)(hn:n<4294967296)(w:World) :
 Calls Tryz.prog 58 #[.int .u32 (n:Int)] w fun e w'=>∃ v,e=.returned v∧Own .u32 89 w.heap.size w' v (aa n)∧Below w.heap.size w w':=by
 obtain⟨lo,hlo⟩:∃ lo,lo=n%BB:=⟨_,rfl⟩;obtain⟨hi,hhi⟩:∃ hi,hi=n / BB:=⟨_,rfl⟩;have e1:(n:Int)%1000000000=(lo:Int):=by rw[hlo,aC];omega
 have e2:(n:Int) / 1000000000=(hi:Int):=by rw[hhi,aC];omega
 have htr:=qH [lo,hi] (by intro z hz;simp at hz;rcases hz with rfl|rfl;· rw[hlo];exact Nat.mod_lt _ bD
                          · rw[hhi,Nat.div_lt_iff_lt_mul bD,aC];omega) (by simp) #[.int .u32 (lo:Int),.int .u32 (hi:Int)] (by simp[cls]) 2 rfl w
 rw[show ag [lo,hi]=n by simp only[ag,Nat.mul_zero,Nat.add_zero];rw[hlo,hhi];exact Nat.mod_add_div _ _]at htr;have HTR:=hid htr;have k1:(n:Int)≤4294967295:=by omega
 have k2:(lo:Int)≤999999999:=by rw[aC]at hlo;omega
 have k3:(hi:Int)≤4:=by rw[aC]at hhi;omega
 clear htr hlo hhi hn;go_enter func58,ntmps58
 go_wp2_with fail
 refine HTR.o.mono ?_;rintro e w2 ⟨v',rfl,hown,rfl⟩;go_wp2;go_ret
 exact⟨v',rfl,hown,(Below.refl _ _).alloc (Nat.le_refl _) _⟩
theorem z3q (n:Nat)(hn:n<18446744073709551616)(w:World) :
 Calls Tryz.prog 80 #[.int .u64 (n:Int)] w fun e w'=>∃ v,e=.returned v∧Own .u32 89 w.heap.size w' v (aa n)∧Below w.heap.size w w':=by
 obtain⟨a,ha⟩:∃ a,a=n%BB:=⟨_,rfl⟩;obtain⟨q,hq⟩:∃ q,q=n / BB:=⟨_,rfl⟩;obtain⟨b,hb⟩:∃ b,b=q%BB:=⟨_,rfl⟩;obtain⟨c,hc⟩:∃ c,c=q / BB:=⟨_,rfl⟩;have e1:(n:Int)%1000000000=(a:Int):=by rw[ha,aC];omega
 have e2:(n:Int) / 1000000000=(q:Int):=by rw[hq,aC];omega
 have e3:(q:Int)%1000000000=(b:Int):=by rw[hb,aC];omega
 have e4:(q:Int) / 1000000000=(c:Int):=by rw[hc,aC];omega
 have k2:(a:Int)≤999999999:=by rw[aC]at ha;omega
 have k3:(b:Int)≤999999999:=by rw[aC]at hb;omega
 have k5:(q:Int)≤18446744073:=by rw[aC]at hq;omega
 have k4:(c:Int)≤18:=by rw[aC]at hc;omega
 have htr:=qH [a,b,c] (by intro z hz;simp at hz;rw[aC];rcases hz with rfl|rfl|rfl<;>omega) (by simp) #[.int .u32 (a:Int),.int .u32 (b:Int),.int .u32 (c:Int)] (by simp[cls]) 3 rfl w
 rw[show ag [a,b,c]=n by
  simp only[ag,Nat.mul_zero,Nat.add_zero]
  rw[hb,hc,Nat.mod_add_div,ha,hq,Nat.mod_add_div]]at htr
 have HTR:=hid htr;have k1:(n:Int)≤18446744073709551615:=by omega
 clear htr ha hq hb hc hn;go_enter func80,ntmps80
 go_wp2_with fail
 refine HTR.o.mono ?_;rintro e w2 ⟨v',rfl,hown,rfl⟩;go_wp2;go_ret
 exact⟨v',rfl,hown,(Below.refl _ _).alloc (Nat.le_refl _) _⟩
theorem z2N (v:Value)(a:Nat)(hl:(aa a).length≤2)(w:World)(h:Rd .u32 w v (aa a)) :
 Calls Tryz.prog 79 #[v] w fun e w'=>e=.returned (.int .u64 (a:Int))∧w=w':=by
 obtain⟨p,c,rfl,r⟩:=h.gen;have hv:=ak a;have hB:=aN a;generalize aa a=xs at *
 match xs,hl with
 | [],_ =>
   have h0:a=0:=by rw[← hv];rfl
   subst h0;clear hv hB r h hl;simp only[List.length_nil];go_enter func79,ntmps79
   go_wp2;refine wp_loop_rounds 1 ?_;rw[rounds_succ];go_wp2;go_ret
   exact⟨rfl,rfl⟩
 | [x],_ =>
   have h0:a=x:=by rw[← hv];simp[ag]
   have hx:=hB x (by simp);rw[aC]at hx;subst h0;obtain⟨b,o,rfl,hb,hc⟩:=r 0 (by simp);simp only[List.getD_cons_zero,Nat.add_zero]at hc;have k1:(a:Int)≤999999999:=by omega
   clear hv hB r h hl hb hx;simp only[List.length_cons,List.length_nil];go_enter func79,ntmps79
   go_wp2;refine wp_loop_rounds 2 ?_;rw[rounds_succ];go_wp2;rw[rounds_succ];go_wp2;go_ret
   exact⟨rfl,rfl⟩
 | [x,y],_ =>
   have hx:=hB x (by simp);have hy:=hB y (by simp);have h0:a=x+1000000000*y:=by rw[← hv];simp only[ag,Nat.mul_zero,Nat.add_zero];rw[aC]
   rw[aC]at hx hy;obtain⟨b,o,rfl,hb,hc⟩:=r 0 (by simp);obtain⟨b',o',hp,hb',hc'⟩:=r 1 (by simp);injection hp with hp
   injection hp with e1 e2 e3
   subst e1 e2;simp only[List.getD_cons_zero,List.getD_cons_succ,Nat.add_zero]at hc hc';have k1:(x:Int)≤999999999:=by omega
   have k2:(y:Int)≤999999999:=by omega
   have H0:=hid h0;clear hv hB r h hl hb hb' hx hy h0;simp only[List.length_cons,List.length_nil];go_enter func79,ntmps79
   go_wp2;refine wp_loop_rounds 3 ?_;rw[rounds_succ];go_wp2;rw[rounds_succ];go_wp2;rw[rounds_succ];go_wp2;go_ret
   exact⟨dD (by have:=H0.o;omega),rfl⟩
 | _ :: _ :: _ :: _,hl=>simp at hl
theorem oz (v1:Value)(a d:Nat)(hd:0<d)(hdB:d<BB)(hl:(aa a).length≤100000)(w:World)(h1:Rd .u32 w v1 (aa a)) :
 Calls Tryz.prog 106 #[v1,.int .u32 (d:Int)] w fun e w'=>∃ v,e=.returned (.tuple #[v,.int .u32 ((a%d:Nat):Int)])∧Own .u32 89 w.heap.size w' v (aa (a / d))∧Below w.heap.size w w':=by
 obtain⟨i0,hi,hz0,hz1,hz2⟩:=info_parts Tryz.info89;obtain⟨p,c,rfl,r1⟩:=h1.gen;have hv:=ak a;have hx:=aN a;generalize aa a=xs at *;obtain ⟨HX,HV,HR⟩:=av hx hv r1;have hd1:(1:Int)≤(d:Int):=by omega
 have hd2:(d:Int)≤999999999:=by rw[aC]at hdB;omega
 have hdz:((d:Int)==0)=false:=beq_eq_false_iff_ne.2 (by omega);have HD:=hid hd;clear h1 hx hv r1 hd hdB;go_enter func106,ntmps106
 go_wp2_with (at_make;refine wpList_make_full _ rfl _ _ 49 rfl w.heap.size 89 i0 (.int .u32 0) 1 underlying49 hi hz0 hz1 _ _ _ _ xs.length rfl rfl (by omega) (by omega) ?b2 ?b3 (Nat.le_refl _) ?_)
 case b2=>rw[hz2];omega
 case b3=>unfold maxLen;omega
 intro w0 hown0 hgrow0;have u6:=hid (show Blk4 w0 w.heap.size (List.replicate xs.length 0) from Blk4.of_made hown0 (iK _));have HN0:=hid ((Below.refl w.heap.size w).grown hgrow0 (Nat.le_refl _) (fun k h=>by cases h));clear hown0 hgrow0;go_wp2;go_loopw [7,8] (fun rr ii wr=>∃ (z:Int) (r:Nat) (os:List Nat),-1≤z∧z<xs.length∧ii=.int .i64 z∧rr=.int .u64 (r:Int)∧Hid (qo xs os d (z+1).toNat r)∧Hid (Blk4 wr w.heap.size (List.replicate (z+1).toNat 0++os))∧Hid (Below w.heap.size w wr)) (fun _ ii _=>(intOf ii+1).toNat)
 case atStart=>exact⟨(xs.length:Int)-1,0,[],by omega,by omega,rfl,rfl,by rw[show((xs.length:Int)-1+1).toNat=xs.length by omega];exact qo.start xs HD.o,by rw[show((xs.length:Int)-1+1).toNat=xs.length by omega,List.append_nil];exact u6,HN0⟩
 case round =>
  obtain⟨z,r,os,hz1',hz8,rfl,rfl,hI,hB,hn⟩:=hrel;by_cases hz:0≤z
  · obtain⟨j,rfl⟩:=Int.eq_ofNat_of_zero_le hz
    have hj:j<xs.length:=by omega
    have hI':=hI.o;have hB':=hB.o;rw[show((j:Int)+1).toNat=j+1 by omega]at hI' hB';obtain⟨b1,o1,rfl,hb1,hc1⟩:=HR.o j hj;have hcx:=(hn.o.cell (p:=⟨b1,o1+j,none⟩) hb1).trans hc1;have hxw:=HX.o _ (aU hj);have hst:=hI'.step hj HX.o;have hr:=hI'.2.2.1;rw[iq,List.append_assoc]at hB';have e1:(List.replicate j 0++([0]++os)).getD j 0=0:=by simp[List.getD]
    have hcell:=hB'.cell (i:=j) (by simp);have hfree:=hB'.free j;have hset:=hB'.set j ((r*BB+xs.getD j 0) / d);have e2:(List.replicate j 0++([0]++os)).set j ((r*BB+xs.getD j 0) / d)=List.replicate j 0++((r*BB+xs.getD j 0) / d :: os):=by simp
    rw[e1]at hcell;rw[e2]at hset;have hqB:=mV hr hxw;have hbel:=hn.o.setCell (p:=⟨w.heap.size,j,none⟩) (Nat.le_refl _) (.int .u32 (((r*BB+xs.getD j 0) / d:Nat):Int));obtain ⟨HS,HI,HBL⟩:=av hset hst hbel;clear hI' hB' hst e1 e2 hset hbel hI hB hn hb1 hc1;generalize xs.getD j 0=x at *;rw[aC]at hxw;have hr2:r<999999999:=by omega
    obtain⟨q,hq⟩:∃ q,q=(r*BB+x) / d:=⟨_,rfl⟩;obtain⟨m,hm⟩:∃ m,m=(r*BB+x)%d:=⟨_,rfl⟩;rw[← hq]at hqB HS HI HBL;rw[← hm]at HI;have hqI:((r:Int)*1000000000+(x:Int)) / (d:Int)=(q:Int):=by rw[hq,aC];rfl
    have hmI:((r:Int)*1000000000+(x:Int))%(d:Int)=(m:Int):=by rw[hm,aC];rfl
    have k1:(x:Int)≤999999999:=by omega
    have k2:(r:Int)≤999999999:=by omega
    have k3:(q:Int)≤999999999:=by rw[aC]at hqB;omega
    clear hq hm hxw hr hr2 hqB;go_wp2;go_roundw
    case rel=>exact⟨(j:Int)-1,m,q :: os,by omega,by omega,rfl,bU hmI,by rw[show((j:Int)-1+1).toNat=j by omega];exact HI,by rw[show((j:Int)-1+1).toNat=j by omega];exact HS,HBL⟩
    case measure=>simp[intOf]
  · have hz0':(z+1).toNat=0:=by omega
    have hI':=hI.o;have hB':=hB.o;rw[hz0']at hI' hB';obtain⟨g1,g2,g3,g4⟩:=hI';rw[List.drop_zero,HV.o]at g4;rw[List.replicate_zero,List.nil_append]at hB';have hown:=Blk4.own hB' (Nat.le_refl _) (by unfold maxLen;omega);have hq:ag os=a / d:=by rw[g4,Nat.add_comm,Nat.add_mul_div_right _ _ HD.o,Nat.div_eq_of_lt g3,Nat.zero_add]
    have hm:r=a%d:=by rw[g4,Nat.add_comm,Nat.add_mul_mod_self_right,Nat.mod_eq_of_lt g3]
    have htr:=gp 89 w.heap.size _ os g2 wr hown;rw[g1,Nat.sub_zero,hq]at htr;obtain ⟨HTR,HM⟩:=aI htr hm;have k2:(r:Int)≤999999999:=by omega
    clear g1 g2 g3 g4 hB' hown hq htr hz0' hm;go_wp2_with fail
    refine HTR.o.mono ?_;rintro e w2 ⟨v',rfl,hown,rfl⟩;go_wp2;go_ret2
    exact⟨v',ll (by rw[HM.o]),hown,hn.o⟩
