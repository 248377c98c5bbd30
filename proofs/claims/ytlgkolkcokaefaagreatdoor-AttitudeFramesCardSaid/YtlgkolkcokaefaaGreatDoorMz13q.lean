/- texts -/
import Derived.Test.YtlgkolkcokaefaaGreatDoorMz11q
import Derived.Test.YtlgkolkcokaefaaGreatDoorKe
open Go.Proofs.Tryz
set_option maxRecDepth 100000
set_option maxHeartbeats 20000000
open Go.Lib (hid)
namespace Go.Proofs.YtlgkolkcokaefaaGreatDoor
open Go.RowKit Go.Gb
theorem jY {k:IntKind}{a b:Int}(h:a=b):Value.int k a=.int k b:=by rw[h]
theorem z2l {d:Nat}(h:d<10):Value.int .u8 (48+(d:Int))=.int .u8 ((UInt8.ofNat (48+d)).toNat:Int):=by
 rw[fA h];exact jY (by omega)
theorem vR {W:World}{B:Nat}{v:Value}{bs:List UInt8}{d:Nat}(hd:d<10)(h:W.ownsRow B 5 1 v (bs.length+1) (Lib.byteCells bs++[.int .u8 (48+(d:Int))])):W.ownsRow B 5 1 v (bs++[UInt8.ofNat (48+d)]).length (Lib.byteCells (bs++[UInt8.ofNat (48+d)])):=by
 rw[z2l hd]at h;rw[List.length_append,Lib.byteCells_append];exact h
theorem z2E (b o c:Nat)(xs:List Nat)(hx:∀ x∈xs,x<BB)(hp:0<xs.length)(hlast:xs.getD (xs.length-1) 0≠0)(hl:xs.length≤10000)(w:World)(hb:b<w.heap.size)
 (hcx:∀ i,i<xs.length→w.cell? ⟨b,o+i,none⟩=some (.int .u32 ((xs.getD i 0:Nat):Int))) :
 CR 53 #[.slice (some ⟨b,o,none⟩) xs.length c] w (.string ⟨(Lib.decDigits (aj xs)).toArray⟩):=by
 obtain⟨i0,hi,hz0,hz1,hz2⟩:=info_parts Tryz.info5;obtain ⟨HX,HCX,HLA,HO0⟩:=aH hx hcx hlast (World.ownsRow_nil w w.heap.size 5 1);have d0:((xs.length:Int)==0)=false:=beq_eq_false_iff_ne.2 (by omega);have HP:=hid hp;clear hx hcx hlast hp;go_enter func53,ntmps53
 go_wp2;go_loopw [3,4] (fun v ii wr=>∃ (i:Nat) (bs:List UInt8),i≤xs.length∧ii=.int .i64 i∧Hid (TOut xs bs i)∧Hid (wr.ownsRow w.heap.size 5 1 v bs.length (Lib.byteCells bs))∧Hid (Below w.heap.size w wr)) (fun _ ii _=>xs.length-(intOf ii).toNat)
 case atStart=>exact⟨0,[],Nat.zero_le _,rfl,TOut.zero HP.out,HO0,Below.refl _ _⟩
 case round =>
  obtain⟨i,bs,hi',rfl,hT,ho,hn⟩:=hrel;by_cases hlt:i<xs.length
  · have hcell:=(hn.out.cell (p:=⟨b,o+i,none⟩) hb).trans (HCX.out i hlt)
    have HS:=hid (TIn.start hT.out hlt);have hq0:=(TIn.start hT.out hlt).lt hlt HX.out;clear hT;generalize xs.getD i 0=x at *;go_wp2;obtain⟨wo,rfl⟩:∃ wo:World,wo=wr:=⟨_,rfl⟩;go_loopw [3,5,6] (fun v qq kk wr=>∃ (k q:Nat) (bs:List UInt8),k≤9∧q<1000000000∧kk=.int .i64 k∧qq=.int .u32 (q:Int)∧Hid (TIn xs bs i k q)∧Hid (wr.ownsRow w.heap.size 5 1 v bs.length (Lib.byteCells bs))∧Hid (Below w.heap.size w wr)) (fun _ _ kk _=>9-(intOf kk).toNat)
    case atStart=>exact⟨0,x,bs,by omega,hq0,rfl,rfl,HS,ho,hn⟩
    case round =>
        clear HS ho hn hcell hq0;obtain⟨k,q,bs,hk9,hq9,rfl,rfl,hI,ho,hn⟩:=hrel;have hbl:bs.length≤90009:=by have:=hI.out.len;omega
        have hq9':(q:Int)≤999999999:=by omega
        obtain⟨d,hd⟩:∃ d:Nat,d=q%10:=⟨_,rfl⟩;have hd10:d<10:=by omega
        have hmod:(q:Int)%10=(d:Int):=by omega
        have hd9:(d:Int)≤9:=by omega
        have w1:IntKind.u8.wrap (48+(d:Int))=48+(d:Int):=by rw[IntKind.wrap_u8];omega
        by_cases hg:k<9∧(i+1<xs.length∨0<q)
        · obtain⟨hk,hg⟩:=hg
          have HST:=hid (show TIn xs (bs++[UInt8.ofNat (48+d)]) i (k+1) (q / 10) by rw[hd];exact hI.out.step hlt HX.out hk hg);obtain ⟨Hd,Hd10⟩:=aF hd hd10;have k1:(k:Int)<9:=by omega
          clear hd hd10 hI;by_cases hl2:i+1<xs.length
          · have k2:(i:Int)+1<(xs.length:Int):=by omega
            clear hg;go_wp2_with (at_builtin;refine wpList_append_own _ rfl _ _ 115 rfl w.heap.size 5 i0 (.int .u8 0) 1 1 underlying115 hi hz0 hz1 hz2 rfl (by decide) _ _ _ rfl (ho.out.alloc _) ⟨wr.heap.size,0,none⟩ 1 1 [.int .u8 (48+(d:Int))] rfl rfl (cells_one _ _ _) (by intro u hu;simp at hu;subst hu;rfl) (by unfold maxLen;omega) (by omega) (by have:=hn.out.size;simp;omega) ?_)
            intro v' w1 hown' hgrow _;have HO:=hid (vR Hd10.out hown');have HN:=hid ((hn.out.alloc hn.out.size _).grown hgrow (by have:=hn.out.size;simp;omega) (fun k hk=>(ho.out.lt k hk).1));clear hown' hgrow;go_wp2;go_roundw
            case rel=>exact⟨k+1,q / 10,_,by omega,by omega,by go_num,jY (by omega),HST,HO,HN⟩
            case measure=>simp[intOf];omega
          · have k2:decide ((i:Int)+1<(xs.length:Int))=false:=decide_eq_false (by omega)
            have k3:0<(q:Int):=by omega
            clear hg;go_wp2_with (at_builtin;refine wpList_append_own _ rfl _ _ 115 rfl w.heap.size 5 i0 (.int .u8 0) 1 1 underlying115 hi hz0 hz1 hz2 rfl (by decide) _ _ _ rfl (ho.out.alloc _) ⟨wr.heap.size,0,none⟩ 1 1 [.int .u8 (48+(d:Int))] rfl rfl (cells_one _ _ _) (by intro u hu;simp at hu;subst hu;rfl) (by unfold maxLen;omega) (by omega) (by have:=hn.out.size;simp;omega) ?_)
            intro v' w1 hown' hgrow _;have HO:=hid (vR Hd10.out hown');have HN:=hid ((hn.out.alloc hn.out.size _).grown hgrow (by have:=hn.out.size;simp;omega) (fun k hk=>(ho.out.lt k hk).1));clear hown' hgrow;go_wp2;go_roundw
            case rel=>exact⟨k+1,q / 10,_,by omega,by omega,by go_num,jY (by omega),HST,HO,HN⟩
            case measure=>simp[intOf];omega
        · have HD:=hid (hI.out.done hlt HX.out HLA.out (by omega))
          clear hd hd10 hmod w1;by_cases hk:k<9
          · have k1:(k:Int)<9:=by omega
            have k2:decide ((i:Int)+1<(xs.length:Int))=false:=decide_eq_false (by omega);have k3:decide (0<(q:Int))=false:=decide_eq_false (by omega);have k4:decide (0<q)=false:=decide_eq_false (by omega);have k5:¬ 0<q:=by omega
            clear hg hI;go_wp2;go_roundw
            case rel=>exact⟨i+1,bs,by omega,by go_num,HD,ho,hn⟩
            case measure=>simp[intOf];omega
          · have k1:decide ((k:Int)<9)=false:=decide_eq_false (by omega)
            have k2:¬ (k:Int)<9:=by omega
            clear hg hI;go_wp2;go_roundw
            case rel=>exact⟨i+1,bs,by omega,by go_num,HD,ho,hn⟩
            case measure=>simp[intOf];omega
  · have hi2:i=xs.length:=by omega
    have hT':=hT.out;have hbl:=hT'.len HX.out;rw[hi2]at hT';obtain⟨hrev,hbp⟩:=hT'.done;obtain⟨g,cap,rfl,hg,hcm,hR⟩:=RowB.of_own ho.out hbp;obtain⟨n,hn0⟩:∃ n,n=bs.length:=⟨_,rfl⟩;have HR0:=hid (show RowB wr g cap (swp bs 0) by rw[z1o];exact hR);obtain ⟨Hg,HREV⟩:=aF hg hrev;rw[← hn0]at hbl hbp;have Hn0:=hid hn0;have k1:decide ((i:Int)<(xs.length:Int))=false:=decide_eq_false (by omega);rw[← hn0];clear hT hT' hrev ho hR hg hi2 hn0 hcm;go_wp2;obtain⟨wo,rfl⟩:∃ wo:World,wo=wr:=⟨_,rfl⟩;go_loopw [7,8] (fun ii kk wr=>∃ (i k:Nat),i+k+1=n∧ii=.int .i64 i∧kk=.int .i64 k∧Hid (RowB wr g cap (swp bs i))∧Hid (Below w.heap.size w wr)) (fun ii _ _=>n-(intOf ii).toNat)
    case atStart=>exact⟨0,n-1,by omega,rfl,jY (by omega),HR0,hn⟩
    case round =>
        clear HR0 hn;obtain⟨i,k,hik,rfl,rfl,hR,hn⟩:=hrel;have hnl:=Hn0.out;by_cases hlk:i<k
        · have hkk:bs.length-1-i=k:=by omega
          have hc1:=hR.out.cell (i:=i) (by rw[dH];omega);have hc2:=hR.out.cell (i:=k) (by rw[dH];omega);rw[z3g bs i (by omega)]at hc1;have hh:=z1q bs i (by omega);rw[hkk]at hh;rw[hh]at hc2;have hs:=z1p bs i (by omega);rw[hkk]at hs;have hf1:=hR.out.free i;have hf2:=hR.out.free k;obtain⟨x,hx⟩:∃ x,x=bs.getD i 0:=⟨_,rfl⟩;obtain⟨y,hy⟩:∃ y,y=bs.getD k 0:=⟨_,rfl⟩;rw[← hx]at hc1 hs;rw[← hy]at hc2 hs
          have HSET:=hid (show RowB (((wr.setCell ⟨g,i,none⟩ (.int .u8 (y.toNat:Int))).setCell ⟨g,k,none⟩ (.int .u8 (x.toNat:Int))).drew) g cap (swp bs (i+1)) by
           have h1:=(hR.out.set i y).set k x;rw[hs]at h1
           exact h1)
          have HB:=hid (((hn.out.setCell (p:=⟨g,i,none⟩) Hg.out (.int .u8 (y.toNat:Int))).setCell (p:=⟨g,k,none⟩) Hg.out (.int .u8 (x.toNat:Int))).drew);have hne:¬ i=k:=by omega
          have j1:(i:Int)<(k:Int):=by omega
          have j2:(k:Int)<(n:Int):=by omega
          have hc3:(wr.setCell ⟨g,i,none⟩ (.int .u8 (y.toNat:Int))).cell? ⟨g,k,none⟩=some (.int .u8 (y.toNat:Int)):=(World.cell?_setCell_other _ _ _ _ (by intro e;injection e with e1 e2;exact hne e2)).trans hc2;clear hx hy hs hh hkk hR hn hnl;generalize x.toNat=a at *;generalize y.toNat=b2 at *;go_wp2;go_region
          go_wp2;go_roundw
          case rel=>exact⟨i+1,k-1,by omega,by go_num,jY (by omega),HSET,HB⟩
          case measure=>simp[intOf];omega
        · have hsd:=z1r bs i (by omega)
          have hR':=hR.out;rw[hsd,HREV.out]at hR';have hdl:(Lib.decDigits (aj xs)).length=n:=by rw[← HREV.out,List.length_reverse];omega
          have hcv:(convert 115 9 (.slice (some ⟨g,0,none⟩) n cap)).run Tryz.prog wr=.ok (.string ⟨(Lib.decDigits (aj xs)).toArray⟩) wr:=by
           have h:=run_convert_bytes_back (P:=Tryz.prog) wr 115 9 5 ⟨g,0,none⟩ cap (Lib.decDigits (aj xs)) underlying115 underlying5 underlying9 (fun j hj=>by
            have h1:=hR'.cell hj;rw[Lib.add_plain,Nat.zero_add,h1]
            simp[List.getD,hj])
           rw[hdl]at h;exact h
          have k2:decide ((i:Int)<(k:Int))=false:=decide_eq_false (by omega);clear hsd hR hR' hdl hnl;go_wp2;go_ret
          exact⟨rfl,hn.out⟩
end Go.Proofs.YtlgkolkcokaefaaGreatDoor
namespace Go.Gb
def TI (x y os:List Nat) (i:Nat):Prop:=os.length=x.length+y.length∧(∀ w∈os,w<BB)∧aj os=aj (x.take i)*aj y
def TR (x y os:List Nat) (i k c:Nat):Prop:=os.length=x.length+y.length∧(∀ w∈os,w<BB)∧c<BB∧os.getD (i+y.length) 0=0∧aj os+BB^(i+k)*c=aj (x.take i)*aj y+BB^i*(x.getD i 0*aj (y.take k))
theorem z2O {os:List Nat}{m v:Nat}(h:∀ w∈os,w<BB)(hv:v<BB):∀ w∈os.set m v,w<BB:=by
 intro w hw;rcases List.mem_or_eq_of_mem_set hw with hw|hw
 · exact h w hw
 · rw[hw];exact hv
theorem z0l {os:List Nat}{m:Nat}(h:aj os<BB^m):os.getD m 0=0:=by
 by_cases hm:m<os.length
 · have h1:=cz os m (by omega)
   rw[fo hm]at h1;rcases Nat.eq_zero_or_pos (os.getD m 0) with h2|h2
   · exact h2
   · have:BB^m*1≤BB^m*(os.getD m 0+BB*aj (os.drop (m+1))):=Nat.mul_le_mul_left _ (by omega)
     omega
 · exact jS (by omega)
theorem TI.start (x y:List Nat):TI x y (List.replicate (x.length+y.length) 0) 0:=by
 refine⟨by simp,fun w hw=>by rw[(List.mem_replicate.1 hw).2];exact bF,?_⟩;have:=ek [] (x.length+y.length);simpa [aj] using this
theorem TI.row {x y os:List Nat}{i:Nat}(h:TI x y os i)(hi:i<x.length)(hx:∀ w∈x,w<BB)(hy:∀ w∈y,w<BB):TR x y os i 0 0:=by
 obtain⟨h1,h2,h3⟩:=h;refine⟨h1,h2,bF,z0l ?_,by rw[h3,Nat.mul_zero,Nat.add_zero,List.take_zero];simp[aj]⟩;have l1:=bK (n:=i) (xs:=x.take i) (fun w hw=>hx w (List.mem_of_mem_take hw)) (by simp;omega);have l2:=dI y hy;rw[h3,Nat.pow_add];exact Nat.mul_lt_mul_of_lt_of_le l1 (Nat.le_of_lt l2) (Nat.pow_pos bF)
theorem TR.bound {o a b c:Nat}(ho:o<BB)(ha:a<BB)(hb:b<BB)(hc:c<BB):a*b≤999999998000000001∧o+a*b+c<BB*BB:=by
 have h:=p9 ha hb;refine⟨h,?_⟩;rw[aI]at *;omega
theorem TR.step {x y os:List Nat}{i k c:Nat}(h:TR x y os i k c)(hi:i<x.length)(hk:k<y.length)(hx:∀ w∈x,w<BB)(hy:∀ w∈y,w<BB) :
 TR x y (os.set (i+k) ((os.getD (i+k) 0+x.getD i 0*y.getD k 0+c)%BB)) i (k+1) ((os.getD (i+k) 0+x.getD i 0*y.getD k 0+c) / BB):=by
 obtain⟨h1,h2,h3,h4,h5⟩:=h;have hb:=(TR.bound (h2 _ (aV (i:=i+k) (by omega))) (hx _ (aV hi)) (hy _ (aV hk)) h3).2;have hm:=Nat.div_add_mod (os.getD (i+k) 0+x.getD i 0*y.getD k 0+c) BB;have hs:=p8 (xs:=os) (i:=i+k) (v:=(os.getD (i+k) 0+x.getD i 0*y.getD k 0+c)%BB) (by omega);refine⟨by simp[h1],z2O h2 (Nat.mod_lt _ bF),(Nat.div_lt_iff_lt_mul bF).2 hb,?_,?_⟩
 · rw[kI,if_neg (by omega)];exact h4
 · rw[aL y k,Nat.mul_add (x.getD i 0),Nat.mul_add (BB^i)]
   rw[show BB^i*(x.getD i 0*(BB^k*y.getD k 0))=BB^(i+k)*(x.getD i 0*y.getD k 0) by rw[Nat.pow_add,Nat.mul_left_comm (x.getD i 0),Nat.mul_assoc]];rw[← Nat.add_assoc i k 1,Nat.pow_succ,Nat.mul_assoc];generalize (os.getD (i+k) 0+x.getD i 0*y.getD k 0+c)%BB=lo at *;generalize (os.getD (i+k) 0+x.getD i 0*y.getD k 0+c) / BB=q at *;have e:=congrArg (BB^(i+k) * ·) hm;simp only[Nat.mul_add]at e;omega
theorem TR.next {x y os:List Nat}{i c:Nat}(h:TR x y os i y.length c)(hi:i<x.length):TI x y (os.set (i+y.length) c) (i+1):=by
 obtain⟨h1,h2,h3,h4,h5⟩:=h;have hs:=p8 (xs:=os) (i:=i+y.length) (v:=c) (by omega);rw[h4,Nat.mul_zero,Nat.add_zero]at hs;refine⟨by simp[h1],z2O h2 h3,?_⟩;rw[hs,h5,List.take_of_length_le (Nat.le_refl _),aL x i,Nat.add_mul,Nat.mul_assoc]
theorem TI.done {x y os:List Nat}(h:TI x y os x.length):aj os=aj x*aj y:=by rw[h.2.2,List.take_of_length_le (Nat.le_refl _)]
end Go.Gb
namespace Go.Proofs.YtlgkolkcokaefaaGreatDoor
open Go.RowKit Go.Gb
def Blk4 (w:World) (g:Nat) (zs:List Nat):Prop:=w.heap[g]? = some (.cells (cls .u32 zs).toArray 89 (0,0))
theorem Blk4.cell {w:World}{g:Nat}{zs:List Nat}(h:Blk4 w g zs){i:Nat}(hi:i<zs.length):w.cell? ⟨g,i,none⟩=some (.int .u32 ((zs.getD i 0:Nat):Int)):=by
 unfold Blk4 at h
 have:=jh (k:=.u32) hi;simp only[World.cell?,h];simpa using this
theorem Blk4.free {w:World}{g:Nat}{zs:List Nat}(h:Blk4 w g zs)(i:Nat):w.frozen? ⟨g,i,none⟩=false:=by
 unfold Blk4 at h
 simp only[World.frozen?,h];simp
theorem Blk4.set {w:World}{g:Nat}{zs:List Nat}(h:Blk4 w g zs)(i v:Nat):Blk4 (w.setCell ⟨g,i,none⟩ (.int .u32 ((v:Nat):Int))) g (zs.set i v):=by
 unfold Blk4 at *
 simp only[World.setCell,Array.getElem?_modify,h];simp[qF]
theorem Blk4.below {w w':World}{g:Nat}{zs:List Nat}(h:Blk4 w g zs)(hb:Below w.heap.size w w'):Blk4 w' g zs:=by
 unfold Blk4 at *
 rw[hb.block g (Array.getElem?_eq_some_iff.1 h).1];exact h
theorem Blk4.own {w:World}{g B:Nat}{zs:List Nat}(h:Blk4 w g zs)(hB:B≤g)(hm:zs.length≤maxLen):Own .u32 89 B w (.slice (some ⟨g,0,none⟩) zs.length zs.length) zs:=by
 refine⟨by simp[cls],Or.inr ⟨g,zs.length,(cls .u32 zs).toArray,rfl,hB,h,Nat.le_refl _,hm,by simp[cls],?_⟩⟩;rw[Nat.mul_one,← mD,List.take_of_length_le (Nat.le_refl _)]
theorem Blk4.of_made {w:World}{B g n:Nat}{xs:List Value}{zs:List Nat}(h:w.ownsRow B 89 1 (.slice (some ⟨g,0,none⟩) n n) n xs)(hx:xs=cls .u32 zs):Blk4 w g zs:=by
 obtain⟨h1,h2⟩:=h;rcases h2 with⟨h2,_⟩|⟨g',cap,cur,hv,hg,hh,hn,hc,hs,ht⟩
 · cases h2
 · injection hv with e1 e2 e3
   injection e1 with e1
   injection e1 with e4 e5 e6
   subst e4 e3;unfold Blk4
   rw[hh];rw[Nat.mul_one]at ht hs;rw[List.take_of_length_le (by simpa using Nat.le_of_eq hs)]at ht;congr 2
   rw[← hx,← ht]
open Go.Lib (hid)
theorem iM (n:Nat):(madeCells #[Value.int .u32 0] n).toList=cls .u32 (List.replicate n 0):=by
 apply List.ext_getElem
 · simp[size_madeCells,cls]
 · intro i h1 h2
   simp[madeCells,cls,Nat.mod_one]
theorem ve (b1 o1 c1 b2 o2 c2:Nat)(xs ys:List Nat)(hxp:0<xs.length)(hyp:0<ys.length)(hxl:xs.length≤100000)(hyl:ys.length≤100000)(hx:∀ x∈xs,x<BB)(hy:∀ y∈ys,y<BB)(w:World)(hb1:b1<w.heap.size)(hb2:b2<w.heap.size)
 (hcx:∀ i,i<xs.length→w.cell? ⟨b1,o1+i,none⟩=some (.int .u32 ((xs.getD i 0:Nat):Int))) (hcy:∀ i,i<ys.length→w.cell? ⟨b2,o2+i,none⟩=some (.int .u32 ((ys.getD i 0:Nat):Int))) :
 Calls Tryz.prog 83 #[.slice (some ⟨b1,o1,none⟩) xs.length c1,.slice (some ⟨b2,o2,none⟩) ys.length c2] w fun e w'=>∃ v,e=.returned v∧Own .u32 89 w.heap.size w' v (ae (aj xs*aj ys))∧Below w.heap.size w w':=by
 obtain⟨i0,hi,hz0,hz1,hz2⟩:=info_parts Tryz.info89;obtain ⟨HX,HY,HCX,HCY⟩:=aH hx hy hcx hcy;have d1:((xs.length:Int)==0)=false:=beq_eq_false_iff_ne.2 (by omega);have d2:((ys.length:Int)==0)=false:=beq_eq_false_iff_ne.2 (by omega);clear hx hy hcx hcy;go_enter func83,ntmps83
 go_wp2_with (at_make;refine wpList_make_full _ rfl _ _ 49 rfl w.heap.size 89 i0 (.int .u32 0) 1 underlying49 hi hz0 hz1 _ _ _ _ (xs.length+ys.length) rfl rfl (by omega) (by omega) ?b2 ?b3 (Nat.le_refl _) ?_)
 case b2=>rw[hz2];omega
 case b3=>unfold maxLen;omega
 intro w0 hown0 hgrow0;have HB0:=hid (show Blk4 w0 w.heap.size (List.replicate (xs.length+ys.length) 0) from Blk4.of_made hown0 (iM _));have HN0:=hid ((Below.refl w.heap.size w).grown hgrow0 (Nat.le_refl _) (fun k h=>by cases h));clear hown0 hgrow0;go_wp2;go_loopw [6,7,8,9] (fun ii _ _ _ wr=>∃ (i:Nat) (os:List Nat),i≤xs.length∧ii=.int .i64 i∧Hid (TI xs ys os i)∧Hid (Blk4 wr w.heap.size os)∧Hid (Below w.heap.size w wr)) (fun ii _ _ _ _=>xs.length-(intOf ii).toNat)
 case atStart=>exact⟨0,_,Nat.zero_le _,rfl,TI.start xs ys,HB0,HN0⟩
 case round =>
  obtain⟨i,os,hi',rfl,hT,hB,hn⟩:=hrel;by_cases hlt:i<xs.length
  · have HR:=hid (hT.out.row hlt HX.out HY.out)
    have i1:(i:Int)<(xs.length:Int):=by omega
    clear hT;go_wp2;obtain⟨wo,rfl⟩:∃ wo:World,wo=wr:=⟨_,rfl⟩;go_loopw [7,8,9] (fun cc kk _ wr=>∃ (k c:Nat) (os:List Nat),k≤ys.length∧kk=.int .i64 k∧cc=.int .u64 (c:Int)∧Hid (TR xs ys os i k c)∧Hid (Blk4 wr w.heap.size os)∧Hid (Below w.heap.size w wr)) (fun _ kk _ _=>ys.length-(intOf kk).toNat)
    case atStart=>exact⟨0,0,os,Nat.zero_le _,rfl,rfl,HR,hB,hn⟩
    case round =>
        clear HR hB hn;obtain⟨k,c,os,hk',rfl,rfl,hR,hB,hn⟩:=hrel;have hol:=hR.out.1;have hcB:=hR.out.2.2.1;rw[aI]at hcB;have hc9:(c:Int)≤999999999:=by omega
        by_cases hkt:k<ys.length
        · have hst:=hR.out.step hlt hkt HX.out HY.out
          have hbd:=TR.bound (hR.out.2.1 _ (aV (xs:=os) (i:=i+k) (by omega))) (HX.out _ (aV hlt)) (HY.out _ (aV hkt)) hR.out.2.2.1;have hoB:=hR.out.2.1 _ (aV (xs:=os) (i:=i+k) (by omega));have hxB:=HX.out _ (aV hlt);have hyB:=HY.out _ (aV hkt);have hco:=hB.out.cell (i:=i+k) (by omega);have hcx:=(hn.out.cell (p:=⟨b1,o1+i,none⟩) hb1).trans (HCX.out i hlt);have hcy:=(hn.out.cell (p:=⟨b2,o2+k,none⟩) hb2).trans (HCY.out k hkt);have hset:=hB.out.set (i+k) ((os.getD (i+k) 0+xs.getD i 0*ys.getD k 0+c)%BB);have hfr:=hB.out.free (i+k);have j1:(k:Int)<(ys.length:Int):=by omega
          have j2:(i:Int)+(k:Int)<(xs.length:Int)+(ys.length:Int):=by omega
          generalize os.getD (i+k) 0=o at *;generalize xs.getD i 0=x at *;generalize ys.getD k 0=y at *;obtain⟨p,hp⟩:∃ p:Nat,p=x*y:=⟨_,rfl⟩;have e1:(x:Int)*(y:Int)=(p:Int):=by rw[hp];exact(Int.natCast_mul _ _).symm
          rw[← hp]at hbd hst hset;obtain⟨lo,hlo⟩:∃ lo:Nat,lo=(o+p+c)%BB:=⟨_,rfl⟩;obtain⟨q,hq⟩:∃ q:Nat,q=(o+p+c) / BB:=⟨_,rfl⟩;rw[← hlo,← hq]at hst;rw[← hlo]at hset;rw[aI]at hoB hxB hyB;have hp9:(p:Int)≤999999998000000001:=by omega
          have ho9:(o:Int)≤999999999:=by omega
          have w1:IntKind.u64.wrap (p:Int)=(p:Int):=IntWalk.u64_in _ (by omega);have hmod:((o:Int)+(p:Int)+(c:Int))%1000000000=(lo:Int):=by rw[hlo,aI];omega
          have hdiv:((o:Int)+(p:Int)+(c:Int)) / 1000000000=(q:Int):=by rw[hq,aI];omega
          have hlo9:(lo:Int)≤999999999:=by rw[aI]at hlo;omega
          have hx9:(x:Int)≤999999999:=by omega
          have hy9:(y:Int)≤999999999:=by omega
          have HST:=hid hst;have HSET:=hid (fun nq=>(show Blk4 ((wr.drewN nq).setCell ⟨w.heap.size,i+k,none⟩ (.int .u32 (lo:Int))) w.heap.size (os.set (i+k) lo) from hset));have HNN:=hid (fun nq=>(below_drewN' hn.out nq).setCell (p:=⟨w.heap.size,i+k,none⟩) (Nat.le_refl _) (.int .u32 (lo:Int)));have hco':∀ nq,(wr.drewN nq).cell? ⟨w.heap.size,i+k,none⟩=some (.int .u32 (o:Int)):=fun _=>hco;have hfr':∀ nq,(wr.drewN nq).frozen? ⟨w.heap.size,i+k,none⟩=false:=fun _=>hfr;clear hst hset hbd hlo hq hp hoB hxB hyB hcB hR hB hn;go_wp2;go_quiet (fail)
          have hco2:=hco' nq;have hfr2:=hfr' nq;obtain ⟨HSET2,HNN2⟩:=aF (HSET.out nq) (HNN.out nq);clear hco hfr hcx hcy hco' hfr' HSET HNN;generalize wr.drewN nq=w2 at *;go_wp2;go_roundw
          case rel=>exact⟨k+1,q,os.set (i+k) lo,by omega,by go_num,bX hdiv,HST,HSET2,HNN2⟩
          case measure=>simp[intOf];omega
        · obtain rfl:k=ys.length:=by omega
          have hnx:=hR.out.next hlt;have hset:=hB.out.set (i+ys.length) c;have hco:=hB.out.cell (i:=i+ys.length) (by omega);have hfr:=hB.out.free (i+ys.length);obtain ⟨HNX,HSET⟩:=aF hnx hset;have HN2:=hid (hn.out.setCell (p:=⟨w.heap.size,i+ys.length,none⟩) (Nat.le_refl _) (.int .u32 (c:Int)));have j2:(i:Int)+(ys.length:Int)<(xs.length:Int)+(ys.length:Int):=by omega
          clear hnx hset hR hB hn hcB;generalize os.getD (i+ys.length) 0=o at *;go_wp2;go_roundw
          case rel=>exact⟨i+1,os.set (i+ys.length) c,by omega,by go_num,HNX,HSET,HN2⟩
          case measure=>simp[intOf];omega
  · obtain rfl:i=xs.length:=by omega
    have hv:=hT.out.done;have hol:=hT.out.1;have hown:=hB.out.own (B:=w.heap.size) (Nat.le_refl _) (by unfold maxLen;omega);rw[hol]at hown;have htr:=gm 89 w.heap.size _ os hT.out.2.1 wr hown;rw[hv]at htr;have HTR:=hid htr;clear hv hol hown htr hT hB;go_wp2_with fail
    refine HTR.out.mono ?_;rintro e w2 ⟨v',rfl,hown,rfl⟩;go_wp2;go_ret
    exact⟨v',rfl,hown,hn.out⟩
end Go.Proofs.YtlgkolkcokaefaaGreatDoor
open Go.Lib (hid)
namespace Go.Proofs.YtlgkolkcokaefaaGreatDoor
open Go.RowKit Go.Gb
theorem z2F (a1 a2:Option Addr)(n m c1 c2:Nat)(h:n≠m)(w:World) :
 Calls Tryz.prog 49 #[.slice a1 n c1,.slice a2 m c2] w fun e w'=>e=.returned (.int .i64 (cmpN n m))∧w=w':=by
 have hb:((n:Int) != (m:Int))=true:=bne_iff_ne.2 (by omega);by_cases hlt:n<m
 · have HF:=hid (fD hlt)
   go_enter func49,ntmps49
   go_wp2;go_ret
   exact⟨dC HF.out.symm,rfl⟩
 · have HF:=hid (ic (show m<n by omega))
   go_enter func49,ntmps49
   go_wp2;go_ret
   exact⟨dC HF.out.symm,rfl⟩
theorem z14 (b1 o1 c1 b2 o2 c2:Nat)(xs ys:List Nat)(hxy:xs.length=ys.length)(hx:∀ x∈xs,x<BB)(hy:∀ y∈ys,y<BB)(hl:xs.length≤1000000)(w:World)
 (hcx:∀ i,i<xs.length→w.cell? ⟨b1,o1+i,none⟩=some (.int .u32 ((xs.getD i 0:Nat):Int)))
 (hcy:∀ i,i<ys.length→w.cell? ⟨b2,o2+i,none⟩=some (.int .u32 ((ys.getD i 0:Nat):Int))) :
 CR 49 #[.slice (some ⟨b1,o1,none⟩) xs.length c1,.slice (some ⟨b2,o2,none⟩) xs.length c2] w (.int .i64 (cmpN (aj xs) (aj ys))):=by
 obtain ⟨HXY,HX,HY,HCX,HCY⟩:=aT hxy hx hy hcx hcy;clear hxy hx hy hcx hcy;have hb:((xs.length:Int) != (xs.length:Int))=false:=by simp
 go_enter func49,ntmps49
 go_wp2;go_loopw [5] (fun ii wr=>∃ z:Int,-1≤z∧z<xs.length∧ii=.int .i64 z∧Hid (z19 xs ys (z+1).toNat)∧Hid (Below w.heap.size w wr)) (fun ii _=>(intOf ii+1).toNat)
 case atStart=>exact⟨(xs.length:Int)-1,by omega,by omega,rfl,fun j h1 h2=>absurd h1 (by omega),Below.refl _ _⟩
 case round =>
  obtain⟨z,hz1',hz8,rfl,he,hn⟩:=hrel;by_cases hz:0≤z
  · obtain⟨j,rfl⟩:=Int.eq_ofNat_of_zero_le hz
    have hb1:=World.block_lt_of_cell? _ _ (HCX.out j (by omega));have hb2:=World.block_lt_of_cell? _ _ (HCY.out j (by have:=HXY.out;omega));have hcx:=(hn.out.cell (p:=⟨b1,o1+j,none⟩) hb1).trans (HCX.out j (by omega));have hcy:=(hn.out.cell (p:=⟨b2,o2+j,none⟩) hb2).trans (HCY.out j (by have:=HXY.out;omega));have he':=he.out;rw[show((j:Int)+1).toNat=j+1 by omega]at he';have HE:=hid he';clear he' he;have hjl:=hid (show j<xs.length by omega);have hL:xs.getD j 0<ys.getD j 0→aj xs<aj ys:=fun h=>jA HXY.out hjl.out HX.out (fun k h1 h2=>HE.out k (by omega) h2) h;have hG:ys.getD j 0<xs.getD j 0→aj ys<aj xs:=fun h=>jA HXY.out.symm (by have:=HXY.out;have:=hjl.out;omega) HY.out (fun k h1 h2=>(HE.out k (by omega) (by have:=HXY.out;omega)).symm) h;obtain ⟨HL,HG⟩:=aF hL hG
    have HEQ:=hid (show xs.getD j 0=ys.getD j 0→z19 xs ys j from fun h k h1 h2=>by
        by_cases hk:k=j
        · subst hk;exact h
        · exact HE.out k (by omega) h2)
    clear hL hG HE;generalize xs.getD j 0=x at *;generalize ys.getD j 0=y at *;clear hb1 hb2;have i1:(0:Int)≤(j:Int):=by omega
    have i2:(j:Int)<(xs.length:Int):=by omega
    by_cases h1:x<y
    · have HF:=hid (fD (HL.out h1))
      go_wp2;go_quiet (fail)
      have HN2:=hid (below_drewN' hn.out nq);go_wp2;go_ret
      exact⟨dC HF.out.symm,HN2.out⟩
    · by_cases h2:y<x
      · have HF:=hid (ic (HG.out h2))
        go_wp2;go_quiet (fail)
        go_wp2;have hn2:=below_drewN' hn.out nq;have hcx2:(wr.drewN nq).cell? ⟨b1,o1+j,none⟩=some (.int .u32 (x:Int)):=hcx;have hcy2:(wr.drewN nq).cell? ⟨b2,o2+j,none⟩=some (.int .u32 (y:Int)):=hcy;have HN2:=hid hn2;clear hcx hcy hn2;generalize wr.drewN nq=w2 at *;go_quiet (fail)
        have HN3:=hid (below_drewN' HN2.out nq);go_wp2;go_ret
        exact⟨dC HF.out.symm,HN3.out⟩
      · have HF:=hid (HEQ.out (by omega))
        go_wp2;go_quiet (fail)
        go_wp2;have hn2:=below_drewN' hn.out nq;have hcx2:(wr.drewN nq).cell? ⟨b1,o1+j,none⟩=some (.int .u32 (x:Int)):=hcx;have hcy2:(wr.drewN nq).cell? ⟨b2,o2+j,none⟩=some (.int .u32 (y:Int)):=hcy;have HN2:=hid hn2;clear hcx hcy hn2;generalize wr.drewN nq=w2 at *;go_quiet (fail)
        have HN3:=hid (below_drewN' HN2.out nq);go_wp2;go_roundw
        case rel=>exact⟨(j:Int)-1,by omega,by omega,rfl,by rw[show((j:Int)-1+1).toNat=j by omega];exact HF,HN3⟩
        case measure=>simp[intOf]
  · have hz0':(z+1).toNat=0:=by omega
    have he':=he.out;rw[hz0']at he';have heq:=hid (nD HXY.out (fun j hj=>he' j (by omega) hj));clear he' hz0';go_wp2;go_ret
    exact⟨dC (by rw[heq.out,qE]),hn.out⟩
theorem z15 (a1 a2:Option Addr)(c1 c2:Nat)(w:World) :
 Calls Tryz.prog 49 #[.slice a1 0 c1,.slice a2 0 c2] w fun e w'=>e=.returned (.int .i64 0)∧w=w':=by
 go_enter func49,ntmps49
 go_wp2;refine wp_loop_rounds 1 ?_;rw[rounds_succ];go_wp2;go_ret
 exact⟨rfl,rfl⟩
theorem mG (v1 v2:Value)(a b:Nat)(hl:(ae a).length≤1000000)(w:World)(h1:Rd .u32 w v1 (ae a))(h2:Rd .u32 w v2 (ae b)) :
 CR 49 #[v1,v2] w (.int .i64 (cmpN a b)):=by
 by_cases hne:(ae a).length=(ae b).length
 · by_cases h0:(ae a).length=0
   · have ha:a=0:=by have:=aA a;rw[List.length_eq_zero_iff.1 h0]at this;exact this.symm
     have hb:b=0:=by have:=aA b;rw[List.length_eq_zero_iff.1 (show(ae b).length=0 by omega)]at this;exact this.symm
     obtain⟨a1,c1,rfl⟩:=aR h1;obtain⟨a2,c2,rfl⟩:=aR h2;rw[← hne,h0];exact(z15 a1 a2 c1 c2 w).mono fun e w' ⟨g1,g2⟩=>⟨by rw[g1,ha,hb,qE],g2▸Below.refl _ _⟩
   · obtain⟨b1,o1,c1,rfl,_,_,_,r1⟩:=dD h1 (by omega)
     obtain⟨b2,o2,c2,rfl,_,_,_,r2⟩:=dD h2 (by omega);have:=z14 b1 o1 c1 b2 o2 c2 (ae a) (ae b) hne (aP a) (aP b) hl w r1 r2;rw[aA,aA]at this;rw[← hne];exact this
 · obtain⟨a1,c1,rfl⟩:=aR h1
   obtain⟨a2,c2,rfl⟩:=aR h2;refine(z2F a1 a2 _ _ c1 c2 hne w).mono fun e w' ⟨g1,g2⟩=>⟨?_,g2▸Below.refl _ _⟩;rw[g1];refine dC ?_;rcases Nat.lt_or_ge (ae a).length (ae b).length with h|h
   · rw[fD h,fD (dP h)]
   · have h':(ae b).length<(ae a).length:=by omega
     rw[ic h',ic (dP h')]
end Go.Proofs.YtlgkolkcokaefaaGreatDoor
