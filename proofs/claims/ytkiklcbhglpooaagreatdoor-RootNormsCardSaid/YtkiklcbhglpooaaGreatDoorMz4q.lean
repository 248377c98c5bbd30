/- texts -/
import Derived.Test.YtkiklcbhglpooaaGreatDoorMz3q
import Derived.Lib.BufferOwn
open Go.Proofs.Tryz
set_option maxRecDepth 100000
set_option maxHeartbeats 20000000
open Go.Lib (hid)
namespace Go.Proofs.YtkiklcbhglpooaaGreatDoor
open Go.RowKit Go.Gb
theorem Tryz.info133:(Tryz.prog.info? 133).map (fun i=>(i.zero,i.size,i.bytes))=some (some (.int .u64 0),1,8):=by kernel_rfl
theorem kW {a:Option Addr}{n m c:Nat}(h:n=m):Ending.returned (.slice a n c)=.returned (.slice a m c):=by rw[h]
theorem oQ {s:ByteArray}{k:Nat}(hk:k<s.size)(h:s.data.toList.all isD=true) :
 aH (s.data.toList.take (k+1))=aH (s.data.toList.take k)*10+(s[k].toNat-48)∧48≤s[k].toNat∧s[k].toNat≤57:=by
 have h1:=List.all_eq_true.1 h (s.data.toList[k]'(by rw[aB];exact hk)) (List.getElem_mem _);rw[fI,gp s k hk]at h1;rw[List.take_succ_eq_append_getElem (by rw[aB];exact hk),ll,gp s k hk];exact⟨rfl,h1⟩
theorem uC {s:ByteArray}(h:s.data.toList.all isD=true){k:Nat}(hk:k≤8):aH (s.data.toList.take k)<100000000:=by
 have h1:=il (s.data.toList.take k) (by
  rw[List.all_eq_true]at h ⊢
  exact fun c hc=>h c (List.mem_of_mem_take hc))
 have h2:10^(s.data.toList.take k).length≤10^8:=Nat.pow_le_pow_right (by decide) (by rw[List.length_take];omega);omega
theorem zS (s:ByteArray)(h:s.data.toList.all isD=true)(hl:s.size≤9)(w:World) :
 Calls Tryz.prog 272 #[.string s] w fun e w'=>e=.returned (.int .u64 ((aH s.data.toList:Nat):Int))∧w=w':=by
 have H:=hid h;clear h;go_enter func272,ntmps272
 go_wp2;go_loop [3,7,4] (fun n i _=>∃ (k m:Nat),k≤s.size∧i=.int .i64 k∧n=.int .u64 (m:Int)∧Hid (m=aH (s.data.toList.take k))) (fun _ i _=>s.size-(intOf i).toNat)
 case atStart=>exact⟨0,0,Nat.zero_le _,rfl,rfl,rfl⟩
 case round =>
  obtain⟨k,m,hk,rfl,rfl,hm⟩:=hrel;by_cases hlt:k<s.size
  · obtain⟨h1,h2,h3⟩:=oQ hlt H.o
    have h4:m<100000000:=by rw[hm.o];exact uC H.o (by omega)
    have H1:=hid h1;clear h1;go_wp2;go_round
    case rel=>exact⟨k+1,m*10+(s[k].toNat-48),by omega,by go_num,by congr 1;omega,by have:=hm.o;subst this;exact H1.o.symm⟩
    case measure=>simp[intOf];omega
  · have hk':k=s.size:=by omega
    have HK:=hid hk';clear hk';go_wp2;go_ret
    refine⟨dM ?_,rfl⟩;rw[hm.o,HK.o,List.take_of_length_le (by rw[aB];exact Nat.le_refl _)]
def Zs (xs:List Nat) (n:Nat):Prop:=n≤xs.length∧∀ i,n≤i→i<xs.length→xs.getD i 0=0
theorem Zs.start (xs:List Nat):Zs xs xs.length:=⟨Nat.le_refl _,fun i h1 h2=>by omega⟩
theorem Zs.step {xs:List Nat}{n:Nat}(h:Zs xs n)(h0:xs.getD (n-1) 0=0):Zs xs (n-1):=by
 refine⟨by have:=h.1;omega,fun i h1 h2=>?_⟩;by_cases hi:n≤i
 · exact h.2 i hi h2
 · obtain rfl:i=n-1:=by omega
   exact h0
theorem Zs.fin {xs:List Nat}{n:Nat}(h:Zs xs n)(hB:∀ x∈xs,x<BB)(hl:n=0∨xs.getD (n-1) 0≠0):n=(ag (aj xs)).length:=by
 rw[iw h.1 hB h.2 hl,List.length_take,Nat.min_eq_left h.1]
theorem ou (b o c:Nat)(xs:List Nat)(hB:∀ x∈xs,x<BB)(hxc:xs.length≤c)(hcm:c≤maxLen)(w:World)
 (hc:∀ i,i<xs.length→w.cell? ⟨b,o+i,none⟩=some (.int .u64 ((xs.getD i 0:Nat):Int))) :
 Calls Tryz.prog 267 #[.slice (some ⟨b,o,none⟩) xs.length c] w fun e w'=>e=.returned (.slice (some ⟨b,o,none⟩) (ag (aj xs)).length c)∧w=w':=by
 unfold maxLen at hcm
 have HC:=hid hc;have HB:=hid hB;clear hc hB;go_enter func267,ntmps267
 go_wp2;go_loop [0] (fun x=>∃ n:Nat,n≤c∧x=.slice (some ⟨b,o,none⟩) n c∧Zs xs n) (fun x=>match x with | .slice _ n _=>n|_=>0)
 case atStart=>exact⟨xs.length,hxc,rfl,Zs.start xs⟩
 case round =>
  obtain⟨n,hn,rfl,hz⟩:=hrel;by_cases h0:n=0
  · have HF:=hid (hz.fin HB.o (Or.inl h0))
    subst h0;go_wp2;go_ret
    exact⟨kW HF.o,rfl⟩
  · have hp:0<n:=by omega
    have hcell:=HC.o (n-1) (by have:=hz.1;omega);by_cases hd:xs.getD (n-1) 0=0
    · rw[hd]at hcell
      have hz':=hz.step hd;clear hd;go_wp2;go_round
      case rel=>exact⟨n-1,by omega,rfl,hz'⟩
      case measure=>simp;omega
    · have HF:=hid (hz.fin HB.o (Or.inr hd))
      obtain⟨d,hdd⟩:∃ d,d=xs.getD (n-1) 0:=⟨_,rfl⟩;rw[← hdd]at hcell hd;have hb:((d:Int)==0)=false:=by simpa using hd
      have hd':0<d:=by omega
      clear hd hdd;go_wp2;go_ret
      exact⟨kW HF.o,rfl⟩
theorem fO (k:TypeId)(B:Nat)(v:Value)(xs:List Nat)(hB:∀ x∈xs,x<BB)(w:World)(h:Own .u64 k B w v xs) :
 Calls Tryz.prog 267 #[v] w fun e w'=>∃ v',e=.returned v'∧Own .u64 k B w v' (ag (aj xs))∧w=w':=by
 have hd:xs.take (ag (aj xs)).length=ag (aj xs)∧(ag (aj xs)).length≤xs.length:=by
  have hlen:(ag (aj xs)).length≤xs.length:=bH (dW xs hB);refine⟨?_,hlen⟩;generalize hm:(ag (aj xs)).length=m at hlen
  have key:∀ (n:Nat),Zs xs n→ag (aj xs)=xs.take (ag (aj xs)).length:=by
   intro n
   induction n with
   | zero=>intro hz;have e:=iw hz.1 hB hz.2 (Or.inl rfl);have:=hz.fin hB (Or.inl rfl);rw[← this];exact e
   | succ n ih =>
     intro hz;by_cases h0:xs.getD n 0=0
     · exact ih (by have:=hz.step (by simpa using h0);simpa using this)
     · have e:=iw hz.1 hB hz.2 (Or.inr (by simpa using h0))
       have:=hz.fin hB (Or.inr (by simpa using h0));rw[← this];exact e
  rw[← hm];exact(key _ (Zs.start xs)).symm
 have h0:=h;obtain⟨h1,h2⟩:=h;rcases h2 with⟨rfl,h3⟩|⟨g,cap,cur,rfl,hg,hh,hn,hc,hs,ht⟩
 · obtain rfl:xs=[]:=List.length_eq_zero_iff.1 h3
   have hz:ag (aj [])=[]:=by unfold aj;exact aN
   rw[hz];clear hd hB h0 hz;go_enter func267,ntmps267
   go_wp2;refine wp_loop_rounds 1 ?_;rw[rounds_succ];go_wp2;go_ret
   exact⟨_,rfl,Own.nil _ _ _ _,rfl⟩
 · have hrd:∀ i,i<xs.length→w.cell? ⟨g,0+i,none⟩=some (.int .u64 ((xs.getD i 0:Nat):Int)):=by
    rcases h0.rd with⟨hv,_⟩|⟨b,o,c,hv,_,_,_,h5⟩
    · injection hv with hv;cases hv
    · injection hv with e1 e2 e3
      injection e1 with e1
      injection e1 with e4 e5 e6
      subst e4 e5 e3;exact h5
   refine(ou g 0 cap xs hB hn hc w hrd).mono fun e w' ⟨he,hw⟩=>⟨_,he,?_,hw⟩;have:=h0.take (ag (aj xs)).length hd.2;rwa [hd.1]at this
def Blk (w:World) (g:Nat) (zs:List Nat):Prop:=w.heap[g]? = some (.cells (cls .u64 zs).toArray 133 (0,0))
theorem Blk.lt {w:World}{g:Nat}{zs:List Nat}(h:Blk w g zs):g<w.heap.size:=(Array.getElem?_eq_some_iff.1 h).1
theorem Blk.cell {w:World}{g:Nat}{zs:List Nat}(h:Blk w g zs){i:Nat}(hi:i<zs.length):w.cell? ⟨g,i,none⟩=some (.int .u64 ((zs.getD i 0:Nat):Int)):=by
 unfold Blk at h
 have:=jJ (k:=.u64) hi;simp only[World.cell?,h];simpa using this
theorem Blk.free {w:World}{g:Nat}{zs:List Nat}(h:Blk w g zs)(i:Nat):w.frozen? ⟨g,i,none⟩=false:=by
 unfold Blk at h
 simp only[World.frozen?,h];simp
theorem Blk.set {w:World}{g:Nat}{zs:List Nat}(h:Blk w g zs)(i v:Nat):Blk (w.setCell ⟨g,i,none⟩ (.int .u64 ((v:Nat):Int))) g (zs.set i v):=by
 unfold Blk at *
 simp only[World.setCell,Array.getElem?_modify,h];simp[sF]
theorem Blk.grown {w w':World}{g:Nat}{zs:List Nat}(h:Blk w g zs){row:Option Nat}(hg:w.grownBy w' row)(hne:row≠some g):Blk w' g zs:=by
 unfold Blk at *
 rw[hg.block g (Array.getElem?_eq_some_iff.1 h).1 (fun e=>hne e.symm)];exact h
theorem Blk.below {w w':World}{g:Nat}{zs:List Nat}(h:Blk w g zs)(hb:Below w.heap.size w w'):Blk w' g zs:=by
 unfold Blk at *
 rw[hb.block g (Array.getElem?_eq_some_iff.1 h).1];exact h
theorem Blk.own {w:World}{g B:Nat}{zs:List Nat}(h:Blk w g zs)(hB:B≤g)(hm:zs.length≤maxLen)(n:Nat)(hn:n≤zs.length):Own .u64 133 B w (.slice (some ⟨g,0,none⟩) n zs.length) (zs.take n):=by
 refine⟨by simp[cls],Or.inr ⟨g,zs.length,(cls .u64 zs).toArray,?_,hB,h,?_,hm,by simp[cls],?_⟩⟩
 · rw[List.length_take,Nat.min_eq_left hn]
 · rw[List.length_take];omega
 · rw[mY,List.length_take,Nat.mul_one,Nat.min_eq_left hn]
theorem Blk.of_made {w:World}{B g n:Nat}{xs:List Value}{zs:List Nat}(h:w.ownsRow B 133 1 (.slice (some ⟨g,0,none⟩) n n) n xs)(hx:xs=cls .u64 zs):Blk w g zs:=by
 obtain⟨h1,h2⟩:=h;rcases h2 with⟨h2,_⟩|⟨g',cap,cur,hv,hg,hh,hn,hc,hs,ht⟩
 · cases h2
 · injection hv with e1 e2 e3
   injection e1 with e1
   injection e1 with e4 e5 e6
   subst e4 e3;unfold Blk
   rw[hh];rw[Nat.mul_one]at ht hs;rw[List.take_of_length_le (by simpa using Nat.le_of_eq hs)]at ht;congr 2
   rw[← hx,← ht]
theorem set_mid (pre ys r:List Nat)(x v:Nat):(pre++(ys++(x :: r))).set (pre.length+ys.length) v=pre++((ys++[v])++r):=by
 simp
theorem nV (pre ys r:List Nat)(x:Nat):(pre++(ys++(x :: r))).getD (pre.length+ys.length) 0=x:=by
 simp[List.getD]
set_option maxHeartbeats 1000000 in
theorem iA (g c:Nat)(pre xs post:List Nat)(hM:∀ i,i<xs.length→xs.getD i 0≤MM 18)(hl:xs.length≤1000000)(w:World)(hb:Blk w g (pre++(xs++post))) :
 Calls Tryz.prog 301 #[.slice (some ⟨g,pre.length,none⟩) xs.length c] w fun e w'=>e=.returned (.tuple #[])∧(∃ (ys:List Nat) (k:Nat),ys.length=xs.length∧(∀ y∈ys,y<BB)∧aj ys+BB^xs.length*k=aj xs∧Blk w' g (pre++(ys++post)))∧w.grownBy w' (some g):=by
 have HM:=hid hM;have HB:=hid hb;clear hM hb;go_enter func301,ntmps301
 go_wp2;go_loopw [2,3,4,7] (fun cc _ _ ii wr=>∃ (i k:Nat) (ys:List Nat),i≤xs.length∧ii=.int .i64 i∧cc=.int .u64 (k:Int)∧lL xs ys i k∧Hid (Blk wr g (pre++(ys++(xs.drop i++post))))∧Hid (w.grownBy wr (some g))) (fun _ _ _ ii _=>xs.length-(intOf ii).toNat)
 case atStart=>exact⟨0,0,[],Nat.zero_le _,rfl,rfl,lL.start xs,HB,World.grownBy.refl _ _⟩
 case round =>
  obtain⟨i,k,ys,hi,rfl,rfl,hc,hB,hG⟩:=hrel;by_cases hlt:i<xs.length
  · obtain⟨hc',hbd⟩:=hc.step hlt (HM.o i hlt)
    have hx0:=hid hc.1;have hdr:=fw hlt;have hB':=hB.o;rw[hdr,List.cons_append]at hB';have hyl:ys.length=i:=hc.1;have hcell:=hB'.cell (i:=pre.length+ys.length) (by simp);have hfree:=hB'.free (pre.length+ys.length);have hset:=hB'.set (pre.length+ys.length) ((xs.getD i 0+k)%BB);rw[nV]at hcell;rw[set_mid]at hset;rw[hyl]at hcell hfree hset;obtain ⟨HS,hG',HC⟩:=av hset (Lib.grownBy_setB hG.o (pre.length+i) (.int .u64 (((xs.getD i 0+k)%BB:Nat):Int))) hc';clear hset hdr hB' hyl hc';generalize xs.getD i 0=x at *;have hmod:((x:Int)+(k:Int))%1000000000=(((x+k)%BB:Nat):Int):=by rw[aD];omega
    have hdiv:((x:Int)+(k:Int)) / 1000000000=(((x+k) / BB:Nat):Int):=by rw[aD];omega
    obtain ⟨HMd,HDv⟩:=aC hmod hdiv;clear hmod hdiv;go_wp2;go_roundw
    case rel=>exact⟨i+1,(x+k) / BB,ys++[(x+k)%BB],by omega,by go_num,by rw[HDv.o],HC.o,by rw[HMd.o];exact HS.o,by rw[HMd.o];exact hG'.o⟩
    case measure=>simp[intOf];omega
  · have hi':i=xs.length:=by omega
    have hfin:=hc;rw[hi']at hfin;have hfin:=hfin.done;have hB':=hB.o;rw[hi',List.drop_of_length_le (Nat.le_refl _),List.nil_append]at hB';obtain ⟨HF,HB'⟩:=aC hfin hB';clear hfin hB' hi';go_wp2;go_end0
    obtain⟨h1,h2,h3⟩:=HF.o;exact⟨rfl,⟨ys,k,h1,h2,h3,HB'.o⟩,hG.o⟩
instance {W W':World}{g:Nat}{l:List Nat}:Gr (Blk W g l) W W' (Blk W' g l):=⟨fun h k=>k.below h⟩
end Go.Proofs.YtkiklcbhglpooaaGreatDoor
open Go.Lib (hid)
namespace Go.Proofs.YtkiklcbhglpooaaGreatDoor
open Go.RowKit Go.Gb
theorem dR (n:Nat):(madeCells #[Value.int .u64 0] n).toList=cls .u64 (List.replicate n 0):=by
 apply List.ext_getElem
 · simp[size_madeCells,cls]
 · intro i h1 h2
   simp[madeCells,cls,Nat.mod_one]
theorem sN (b1 o1 c1 b2 o2 c2:Nat)(xs ys:List Nat)(hx:∀ x∈xs,x<BB)(hy:∀ y∈ys,y<BB)(hlx:xs.length≤100000)(hly:ys.length≤100000)(w:World)
 (hb1:b1<w.heap.size) (hb2:b2<w.heap.size)
 (hcx:∀ i,i<xs.length→w.cell? ⟨b1,o1+i,none⟩=some (.int .u64 ((xs.getD i 0:Nat):Int)))
 (hcy:∀ i,i<ys.length→w.cell? ⟨b2,o2+i,none⟩=some (.int .u64 ((ys.getD i 0:Nat):Int))) :
 Calls Tryz.prog 289 #[.slice (some ⟨b1,o1,none⟩) xs.length c1,.slice (some ⟨b2,o2,none⟩) ys.length c2] w fun e w' =>
  ∃ v,e=.returned v∧Own .u64 133 w.heap.size w' v (ag (aj xs*aj ys))∧Below w.heap.size w w':=by
 obtain⟨i0,hi,hz0,hz1,hz2⟩:=info_parts Tryz.info133;obtain ⟨HX,HY,HCX,HCY⟩:=aP hx hy hcx hcy;clear hx hy hcx hcy;go_enter func289,ntmps289
 go_wp2_with (at_make;refine wpList_make_full _ rfl _ _ 210 rfl w.heap.size 133 i0 (.int .u64 0) 1 underlying210 hi hz0 hz1 _ _ _ _ (xs.length+ys.length) rfl rfl (by omega) (by omega) ?b2 ?b3 (Nat.le_refl _) ?_)
 case b2=>rw[hz2];omega
 case b3=>unfold maxLen;omega
 intro w0 hown0 hgrow0;have hB0:Blk w0 w.heap.size (List.replicate (xs.length+ys.length) 0):=Blk.of_made hown0 (dR _);have hnx0:Below w.heap.size w w0:=(Below.refl _ _).grown hgrow0 (Nat.le_refl _) (fun k h=>by cases h);have u6:=hid hB0;have HN0:=hid hnx0;clear hown0 hgrow0 hB0 hnx0;go_wp2;go_loopw [19] (fun ii wr=>∃ (i:Nat) (os:List Nat),i≤xs.length∧ii=.int .i64 i∧Hid (jo xs ys os i)∧Hid (Blk wr w.heap.size os)∧Hid (Below w.heap.size w wr)) (fun ii _=>xs.length-(intOf ii).toNat)
 case atStart=>exact⟨0,_,Nat.zero_le _,rfl,jo.start xs ys,u6,HN0⟩
 case round =>
  obtain⟨i,os,hi',rfl,hm,hb,hn⟩:=hrel;by_cases hlt:i<xs.length
  · have hcell:=(hn.o.cell (p:=⟨b1,o1+i,none⟩) hb1).trans (HCX.o i hlt)
    have hne:¬ xs.length+ys.length=i:=by omega
    obtain⟨xi,hxi⟩:∃ xi,xi=xs.getD i 0:=⟨_,rfl⟩;rw[← hxi]at hcell;have HXI:=hid hxi;clear hxi;have hrow:=hm.o.row;have HR:=hid hrow;clear hrow;go_wp2;obtain⟨wo,rfl⟩:∃ wo:World,wo=wr:=⟨_,rfl⟩;go_loopw [33] (fun kk wr=>∃ (k:Nat) (os:List Nat),k≤ys.length∧kk=.int .i64 k∧Hid (kw xs ys os i k)∧Hid (Blk wr w.heap.size os)∧Hid (Below w.heap.size w wr)) (fun kk _=>ys.length-(intOf kk).toNat)
    case atStart=>exact⟨0,os,Nat.zero_le _,rfl,HR,hb,hn⟩
    case round =>
        clear HR hb hn hm hcell;obtain⟨k,os,hk',rfl,hm,hb,hn⟩:=hrel;by_cases hkt:k<ys.length
        · have hcell:=(hn.o.cell (p:=⟨b2,o2+k,none⟩) hb2).trans (HCY.o k hkt)
          obtain⟨hm1,hbd⟩:=hm.o.step hlt hkt HX.o HY.o;have hbd':=Nat.le_trans hbd (z5N (r:=18) (by omega));have hlo:=hm.o.1;have hco:=hb.o.cell (i:=i+k) (by rw[hlo];omega);have hfo:=hb.o.free (i+k);have hset:=hb.o.set (i+k) (os.getD (i+k) 0+xs.getD i 0*ys.getD k 0);have hbel:=hn.o.setCell (p:=⟨w.heap.size,i+k,none⟩) (Nat.le_refl _) (.int .u64 ((os.getD (i+k) 0+xs.getD i 0*ys.getD k 0:Nat):Int));rw[← HXI.o]at hm1 hbd' hset hbel;obtain ⟨HM1,HS,HBL⟩:=av hm1 hset hbel;clear hm1 hbd hlo hset hbel;generalize ys.getD k 0=yk at *;generalize os.getD (i+k) 0=ok at *;obtain⟨p,hp⟩:∃ p:Nat,p=xi*yk:=⟨_,rfl⟩;rw[← hp]at hbd';have hpi:(xi:Int)*(yk:Int)=(p:Int):=by rw[hp];exact(Int.natCast_mul _ _).symm
          have HP:=hid hp;clear hp;go_wp2;go_roundw
          case rel=>exact⟨k+1,os.set (i+k) (ok+p),by omega,by go_num,by rw[HP.o];exact HM1,by have h:=HS.o;rw[← HP.o,Int.natCast_add]at h;exact h,by have h:=HBL.o;rw[← HP.o,Int.natCast_add]at h;exact h⟩
          case measure=>simp[intOf];omega
        · have hk2:k=ys.length:=by omega
          rw[hk2]at hm;clear hk2;have hol:=hm.o.1;by_cases h17:i%18=17
          · have hb17:((i:Int)%18==17)=true:=by simp;omega
            have hpre:(os.take (i-17)).length=i-17:=by rw[List.length_take];omega
            have hca:=iA w.heap.size (xs.length+ys.length-(i-17)) (os.take (i-17)) (os.drop (i-17)) [] (fun j hj=>by
             have h3:=hm.o.2.2.1 (i-17+j) (by simp at hj;omega);have h4:MM (i%18+1)≤MM 18:=by unfold MM;omega
             have h5:(os.drop (i-17)).getD j 0=os.getD (i-17+j) 0:=by simp[List.getD]
             rw[h5];omega) (by simp;omega) wr (by rw[List.append_nil,List.take_append_drop];exact hb.o)
            rw[hpre,List.length_drop,hol]at hca;have HCA:=hid hca;have hge:17≤i:=by omega
            have hne17:¬ xs.length+ys.length=i-17:=by omega
            have H17:=hid h17;clear hca h17;go_wp2_with fail
            rw[show((i:Int)-18+1).toNat=i-17 from by omega];refine HCA.o.mono ?_;rintro e w1 ⟨rfl,⟨zs,q,hz1',hz2',hz3',hz4'⟩,hgr⟩;have hnx:=hid (hn.o.grown hgr (by have:=hn.o.size;omega) (fun k h=>by cases h;exact Nat.le_refl _));have hmx:=hid (hm.o.carried hlt H17.o HX.o HY.o (by rw[hz1',hol]) hz2' (by rw[hz1'];exact hz3'));rw[List.append_nil]at hz4';have hbx:=hid hz4';clear hz1' hz2' hz3' hz4' hgr;go_wp2;go_roundw
            case rel=>exact⟨i+1,_,by omega,by go_num,hmx,hbx,hnx⟩
            case measure=>simp[intOf];omega
          · have hb17:((i:Int)%18==17)=false:=by simp;omega
            have HNX:=hid (hm.o.next hlt h17);clear h17;go_wp2;go_roundw
            case rel=>exact⟨i+1,os,by omega,by go_num,HNX,hb,hn⟩
            case measure=>simp[intOf];omega
  · have hi2:i=xs.length:=by omega
    rw[hi2]at hm;clear hi2;have hol:=hm.o.1
    have hca:=iA w.heap.size (xs.length+ys.length) [] os [] (fun j hj=>by
        have h3:=hm.o.2.2.1 j hj;have h4:MM (xs.length%18)≤MM 18:=by unfold MM;omega
        omega) (by omega) wr (by rw[List.append_nil];exact hb.o)
    rw[hol]at hca;have HCA:=hid hca;clear hca;go_wp2_with fail
    refine HCA.o.mono ?_;rintro e w1 ⟨rfl,⟨zs,q,hz1',hz2',hz3',hz4'⟩,hgr⟩;have hnx:=hid (hn.o.grown hgr (by have:=hn.o.size;omega) (fun k h=>by cases h;exact Nat.le_refl _));have hval:=hm.o.done HX.o HY.o (by rw[hol];exact hz3');rw[List.append_nil]at hz4';have hown:=Blk.own (show Blk w1 w.heap.size zs from hz4') (Nat.le_refl _) (by unfold maxLen;omega) zs.length (Nat.le_refl _);rw[List.take_of_length_le (Nat.le_refl _)]at hown;have htr:=fO 133 w.heap.size _ zs hz2' w1 hown;rw[hz1',hval]at htr;have HTR:=hid htr;clear hz1' hz2' hz3' hz4' hgr hval hown htr;go_wp2_with fail
    refine HTR.o.mono ?_;rintro e w2 ⟨v',rfl,hown,rfl⟩;go_wp2;go_ret
    exact⟨v',rfl,hown,hnx.o⟩
theorem lK (a1 a2:Option Addr)(c1 m c2:Nat)(hly:m≤100000)(w:World) :
 Calls Tryz.prog 289 #[.slice a1 0 c1,.slice a2 m c2] w fun e w' =>
  ∃ v,e=.returned v∧Own .u64 133 w.heap.size w' v (ag 0)∧Below w.heap.size w w':=by
 obtain⟨i0,hi,hz0,hz1,hz2⟩:=info_parts Tryz.info133;go_enter func289,ntmps289
 go_wp2_with (at_make;refine wpList_make_full _ rfl _ _ 210 rfl w.heap.size 133 i0 (.int .u64 0) 1 underlying210 hi hz0 hz1 _ _ _ _ m rfl rfl (by omega) (by omega) ?b2 ?b3 (Nat.le_refl _) ?_)
 case b2=>rw[hz2];omega
 case b3=>unfold maxLen;omega
 intro w0 hown0 hgrow0;have hB0:Blk w0 w.heap.size (List.replicate m 0):=Blk.of_made hown0 (dR _);have hnx0:Below w.heap.size w w0:=(Below.refl _ _).grown hgrow0 (Nat.le_refl _) (fun k h=>by cases h)
 have hca:=iA w.heap.size m [] (List.replicate m 0) [] (fun j hj=>by
  have:(List.replicate m 0).getD j 0=0:=by rw[bO hj];simp
  rw[this];omega) (by simp;omega) w0 (by rw[List.append_nil];exact hB0)
 rw[List.length_replicate]at hca;have HCA:=hid hca;have HN0:=hid hnx0;clear hown0 hgrow0 hB0 hnx0 hca;go_wp2;refine wp_loop_rounds 1 ?_;rw[rounds_succ];go_wp2_with fail
 refine HCA.o.mono ?_;rintro e w1 ⟨rfl,⟨zs,q,hz1',hz2',hz3',hz4'⟩,hgr⟩;have hnx:=hid (HN0.o.grown hgr HN0.o.size (fun k h=>by cases h;exact Nat.le_refl _))
 have hval:aj zs=0:=by
  have:=fe [] m;simp only[List.nil_append]at this;rw[this]at hz3';have h0:aj []=0:=rfl;omega
 rw[List.append_nil]at hz4';have hown:=Blk.own (show Blk w1 w.heap.size zs from hz4') (Nat.le_refl _) (by unfold maxLen;omega) zs.length (Nat.le_refl _);rw[List.take_of_length_le (Nat.le_refl _)]at hown;have htr:=fO 133 w.heap.size _ zs hz2' w1 hown;rw[hz1',hval]at htr;have HTR:=hid htr;clear hz1' hz2' hz3' hz4' hgr hval hown htr;go_wp2_with fail
 refine HTR.o.mono ?_;rintro e w2 ⟨v',rfl,hown,rfl⟩;go_wp2;go_ret
 exact⟨v',rfl,hown,hnx.o⟩
theorem sO (b1 o1 c1 c2:Nat)(a2:Option Addr)(xs ys:List Nat)(hy0:ys=[])(hx:∀ x∈xs,x<BB)(hy:∀ y∈ys,y<BB)(hlx:xs.length≤100000)(hly:ys.length≤100000)(w:World)
 (hb1:b1<w.heap.size)
 (hcx:∀ i,i<xs.length→w.cell? ⟨b1,o1+i,none⟩=some (.int .u64 ((xs.getD i 0:Nat):Int))) :
 Calls Tryz.prog 289 #[.slice (some ⟨b1,o1,none⟩) xs.length c1,.slice a2 ys.length c2] w fun e w' =>
  ∃ v,e=.returned v∧Own .u64 133 w.heap.size w' v (ag (aj xs*aj ys))∧Below w.heap.size w w':=by
 obtain⟨i0,hi,hz0,hz1,hz2⟩:=info_parts Tryz.info133;obtain ⟨HX,HY,HCX⟩:=av hx hy hcx;have hyl0:ys.length≤0:=by rw[hy0];exact Nat.le_refl _
 clear hx hy hcx hy0;go_enter func289,ntmps289
 go_wp2_with (at_make;refine wpList_make_full _ rfl _ _ 210 rfl w.heap.size 133 i0 (.int .u64 0) 1 underlying210 hi hz0 hz1 _ _ _ _ (xs.length+ys.length) rfl rfl (by omega) (by omega) ?b2 ?b3 (Nat.le_refl _) ?_)
 case b2=>rw[hz2];omega
 case b3=>unfold maxLen;omega
 intro w0 hown0 hgrow0;have hB0:Blk w0 w.heap.size (List.replicate (xs.length+ys.length) 0):=Blk.of_made hown0 (dR _);have hnx0:Below w.heap.size w w0:=(Below.refl _ _).grown hgrow0 (Nat.le_refl _) (fun k h=>by cases h);have u6:=hid hB0;have HN0:=hid hnx0;clear hown0 hgrow0 hB0 hnx0;go_wp2;go_loopw [19] (fun ii wr=>∃ (i:Nat) (os:List Nat),i≤xs.length∧ii=.int .i64 i∧Hid (jo xs ys os i)∧Hid (Blk wr w.heap.size os)∧Hid (Below w.heap.size w wr)) (fun ii _=>xs.length-(intOf ii).toNat)
 case atStart=>exact⟨0,_,Nat.zero_le _,rfl,jo.start xs ys,u6,HN0⟩
 case round =>
  obtain⟨i,os,hi',rfl,hm,hb,hn⟩:=hrel;by_cases hlt:i<xs.length
  · have hcell:=(hn.o.cell (p:=⟨b1,o1+i,none⟩) hb1).trans (HCX.o i hlt)
    have hne:¬ xs.length+ys.length=i:=by omega
    obtain⟨xi,hxi⟩:∃ xi,xi=xs.getD i 0:=⟨_,rfl⟩;rw[← hxi]at hcell;have HXI:=hid hxi;clear hxi;have hrow:=hm.o.row;have HR:=hid hrow;clear hrow;go_wp2;obtain⟨wo,rfl⟩:∃ wo:World,wo=wr:=⟨_,rfl⟩;go_loopw [33] (fun kk wr=>∃ (k:Nat) (os:List Nat),k≤ys.length∧kk=.int .i64 k∧Hid (kw xs ys os i k)∧Hid (Blk wr w.heap.size os)∧Hid (Below w.heap.size w wr)) (fun kk _=>ys.length-(intOf kk).toNat)
    case atStart=>exact⟨0,os,Nat.zero_le _,rfl,HR,hb,hn⟩
    case round =>
        clear HR hb hn hm hcell;obtain⟨k,os,hk',rfl,hm,hb,hn⟩:=hrel;by_cases hkt:k<ys.length
        · exact absurd hkt (by omega)
        · have hk2:k=ys.length:=by omega
          rw[hk2]at hm;clear hk2;have hol:=hm.o.1;by_cases h17:i%18=17
          · have hb17:((i:Int)%18==17)=true:=by simp;omega
            have hpre:(os.take (i-17)).length=i-17:=by rw[List.length_take];omega
            have hca:=iA w.heap.size (xs.length+ys.length-(i-17)) (os.take (i-17)) (os.drop (i-17)) [] (fun j hj=>by
             have h3:=hm.o.2.2.1 (i-17+j) (by simp at hj;omega);have h4:MM (i%18+1)≤MM 18:=by unfold MM;omega
             have h5:(os.drop (i-17)).getD j 0=os.getD (i-17+j) 0:=by simp[List.getD]
             rw[h5];omega) (by simp;omega) wr (by rw[List.append_nil,List.take_append_drop];exact hb.o)
            rw[hpre,List.length_drop,hol]at hca;have HCA:=hid hca;have hge:17≤i:=by omega
            have hne17:¬ xs.length+ys.length=i-17:=by omega
            have H17:=hid h17;clear hca h17;go_wp2_with fail
            rw[show((i:Int)-18+1).toNat=i-17 from by omega];refine HCA.o.mono ?_;rintro e w1 ⟨rfl,⟨zs,q,hz1',hz2',hz3',hz4'⟩,hgr⟩;have hnx:=hid (hn.o.grown hgr (by have:=hn.o.size;omega) (fun k h=>by cases h;exact Nat.le_refl _));have hmx:=hid (hm.o.carried hlt H17.o HX.o HY.o (by rw[hz1',hol]) hz2' (by rw[hz1'];exact hz3'));rw[List.append_nil]at hz4';have hbx:=hid hz4';clear hz1' hz2' hz3' hz4' hgr;go_wp2;go_roundw
            case rel=>exact⟨i+1,_,by omega,by go_num,hmx,hbx,hnx⟩
            case measure=>simp[intOf];omega
          · have hb17:((i:Int)%18==17)=false:=by simp;omega
            have HNX:=hid (hm.o.next hlt h17);clear h17;go_wp2;go_roundw
            case rel=>exact⟨i+1,os,by omega,by go_num,HNX,hb,hn⟩
            case measure=>simp[intOf];omega
  · have hi2:i=xs.length:=by omega
    rw[hi2]at hm;clear hi2;have hol:=hm.o.1
    have hca:=iA w.heap.size (xs.length+ys.length) [] os [] (fun j hj=>by
        have h3:=hm.o.2.2.1 j hj;have h4:MM (xs.length%18)≤MM 18:=by unfold MM;omega
        omega) (by omega) wr (by rw[List.append_nil];exact hb.o)
    rw[hol]at hca;have HCA:=hid hca;clear hca;go_wp2_with fail
    refine HCA.o.mono ?_;rintro e w1 ⟨rfl,⟨zs,q,hz1',hz2',hz3',hz4'⟩,hgr⟩;have hnx:=hid (hn.o.grown hgr (by have:=hn.o.size;omega) (fun k h=>by cases h;exact Nat.le_refl _));have hval:=hm.o.done HX.o HY.o (by rw[hol];exact hz3');rw[List.append_nil]at hz4';have hown:=Blk.own (show Blk w1 w.heap.size zs from hz4') (Nat.le_refl _) (by unfold maxLen;omega) zs.length (Nat.le_refl _);rw[List.take_of_length_le (Nat.le_refl _)]at hown;have htr:=fO 133 w.heap.size _ zs hz2' w1 hown;rw[hz1',hval]at htr;have HTR:=hid htr;clear hz1' hz2' hz3' hz4' hgr hval hown htr;go_wp2_with fail
    refine HTR.o.mono ?_;rintro e w2 ⟨v',rfl,hown,rfl⟩;go_wp2;go_ret
    exact⟨v',rfl,hown,hnx.o⟩
theorem iM (v1 v2:Value)(a b:Nat)(hla:(ag a).length≤100000)(hlb:(ag b).length≤100000)(w:World)(h1:Rd .u64 w v1 (ag a))(h2:Rd .u64 w v2 (ag b)) :
 Calls Tryz.prog 289 #[v1,v2] w fun e w'=>∃ v,e=.returned v∧Own .u64 133 w.heap.size w' v (ag (a*b))∧Below w.heap.size w w':=by
 rcases h1 with⟨rfl,h1⟩|⟨b1,o1,c1,rfl,_,_,k1,r1⟩
 · have ha:a=0:=by have:=ax a;rw[h1]at this;exact this.symm
   rw[ha,Nat.zero_mul];rcases h2 with⟨rfl,h2⟩|⟨b2,o2,c2,rfl,_,_,k2,r2⟩
   · exact lK none none 0 0 0 (by omega) w
   · exact lK none _ 0 _ c2 hlb w
 · rcases h2 with⟨rfl,h2⟩|⟨b2,o2,c2,rfl,_,_,k2,r2⟩
   · have hb:b=0:=by have:=ax b;rw[h2]at this;exact this.symm
     have:=sO b1 o1 c1 0 none (ag a) [] rfl (aQ a) (by simp) hla (by simp) w k1 r1;rw[ax]at this;rw[hb];exact this
   · have:=sN b1 o1 c1 b2 o2 c2 (ag a) (ag b) (aQ a) (aQ b) hla hlb w k1 k2 r1 r2
     rw[ax,ax]at this;exact this
