/- Texts of this proof, one behind the other. -/
import Derived.Test.YtklfllmfcckgjaaGreatDoorMz8q
import Derived.Lib.BufferOwn
set_option maxRecDepth 100000
set_option maxHeartbeats 20000000
open Go.Lib (hid)
namespace Go.Proofs.YtklfllmfcckgjaaGreatDoor
open Go.RowKit Go.Gb
theorem Tryz.info137:(Tryz.prog.info? 137).map (fun i=>(i.zero,i.size,i.bytes))=some (some (.int .u64 0),1,8):=by kernel_rfl
theorem ret_slice {a:Option Addr}{n m c:Nat}(h:n=m):Ending.returned (.slice a n c)=.returned (.slice a m c):=by rw[h]
theorem dval_take_succ {s:ByteArray}{k:Nat}(hk:k<s.size)(h:s.data.toList.all isD=true) :
 dval (s.data.toList.take (k+1))=dval (s.data.toList.take k)*10+(s[k].toNat-48)∧48≤s[k].toNat∧s[k].toNat≤57:=by
 have h1:=List.all_eq_true.1 h (s.data.toList[k]'(by rw[size_list];exact hk)) (List.getElem_mem _)
 rw[isD_iff,get_list s k hk]at h1
 rw[List.take_succ_eq_append_getElem (by rw[size_list];exact hk),dval_snoc,get_list s k hk]
 exact⟨rfl,h1⟩
theorem dval_take_lt {s:ByteArray}(h:s.data.toList.all isD=true){k:Nat}(hk:k≤8):dval (s.data.toList.take k)<100000000:=by
 have h1:=dval_lt (s.data.toList.take k) (by
  rw[List.all_eq_true]at h ⊢
  exact fun c hc=>h c (List.mem_of_mem_take hc))
 have h2:10^(s.data.toList.take k).length≤10^8:=Nat.pow_le_pow_right (by decide) (by rw[List.length_take];omega)
 omega
theorem value_any (s:ByteArray)(h:s.data.toList.all isD=true)(hl:s.size≤9)(w:World) :
 Calls Tryz.prog 141 #[.string s] w fun e w'=>e=.returned (.int .u64 ((dval s.data.toList:Nat):Int))∧w=w':=by
 have H:=hid h
 clear h
 go_enter Tryz.func141,Tryz.ntmps141
 go_wp2
 go_loop [3,7,4] (fun n i _=>∃ (k m:Nat),k≤s.size∧i=.int .i64 k∧n=.int .u64 (m:Int)∧Hid (m=dval (s.data.toList.take k))) (fun _ i _=>s.size-(intOf i).toNat)
 case atStart=>exact⟨0,0,Nat.zero_le _,rfl,rfl,rfl⟩
 case round =>
  obtain⟨k,m,hk,rfl,rfl,hm⟩:=hrel
  by_cases hlt:k<s.size
  · obtain⟨h1,h2,h3⟩:=dval_take_succ hlt H.out
    have h4:m<100000000:=by rw[hm.out];exact dval_take_lt H.out (by omega)
    have H1:=hid h1
    clear h1
    go_wp2
    go_round
    case rel=>exact⟨k+1,m*10+(s[k].toNat-48),by omega,by go_num,by congr 1;omega,by have:=hm.out;subst this;exact H1.out.symm⟩
    case measure=>simp[intOf];omega
  · have hk':k=s.size:=by omega
    have HK:=hid hk'
    clear hk'
    go_wp2
    go_ret
    refine⟨ret_int ?_,rfl⟩
    rw[hm.out,HK.out,List.take_of_length_le (by rw[size_list];exact Nat.le_refl _)]
def Zs (xs:List Nat) (n:Nat):Prop:=n≤xs.length∧∀ i,n≤i→i<xs.length→xs.getD i 0=0
theorem Zs.start (xs:List Nat):Zs xs xs.length:=⟨Nat.le_refl _,fun i h1 h2=>by omega⟩
theorem Zs.step {xs:List Nat}{n:Nat}(h:Zs xs n)(h0:xs.getD (n-1) 0=0):Zs xs (n-1):=by
 refine⟨by have:=h.1;omega,fun i h1 h2=>?_⟩
 by_cases hi:n≤i
 · exact h.2 i hi h2
 · obtain rfl:i=n-1:=by omega
   exact h0
theorem Zs.fin {xs:List Nat}{n:Nat}(h:Zs xs n)(hB:∀ x∈xs,x<BB)(hl:n=0∨xs.getD (n-1) 0≠0):n=(digs (wval xs)).length:=by
 rw[digs_take h.1 hB h.2 hl,List.length_take,Nat.min_eq_left h.1]
theorem Trim_some (b o c:Nat)(xs:List Nat)(hB:∀ x∈xs,x<BB)(hxc:xs.length≤c)(hcm:c≤maxLen)(w:World)
 (hc:∀ i,i<xs.length→w.cell? ⟨b,o+i,none⟩=some (.int .u64 ((xs.getD i 0:Nat):Int))) :
 Calls Tryz.prog 136 #[.slice (some ⟨b,o,none⟩) xs.length c] w fun e w'=>e=.returned (.slice (some ⟨b,o,none⟩) (digs (wval xs)).length c)∧w=w':=by
 unfold maxLen at hcm
 have HC:=hid hc
 have HB:=hid hB
 clear hc hB
 go_enter Tryz.func136,Tryz.ntmps136
 go_wp2
 go_loop [0] (fun x=>∃ n:Nat,n≤c∧x=.slice (some ⟨b,o,none⟩) n c∧Zs xs n) (fun x=>match x with | .slice _ n _=>n|_=>0)
 case atStart=>exact⟨xs.length,hxc,rfl,Zs.start xs⟩
 case round =>
  obtain⟨n,hn,rfl,hz⟩:=hrel
  by_cases h0:n=0
  · have HF:=hid (hz.fin HB.out (Or.inl h0))
    subst h0
    go_wp2
    go_ret
    exact⟨ret_slice HF.out,rfl⟩
  · have hp:0<n:=by omega
    have hcell:=HC.out (n-1) (by have:=hz.1;omega)
    by_cases hd:xs.getD (n-1) 0=0
    · rw[hd]at hcell
      have hz':=hz.step hd
      clear hd
      go_wp2
      go_round
      case rel=>exact⟨n-1,by omega,rfl,hz'⟩
      case measure=>simp;omega
    · have HF:=hid (hz.fin HB.out (Or.inr hd))
      obtain⟨d,hdd⟩:∃ d,d=xs.getD (n-1) 0:=⟨_,rfl⟩
      rw[← hdd]at hcell hd
      have hb:((d:Int)==0)=false:=by simpa using hd
      have hd':0<d:=by omega
      clear hd hdd
      go_wp2
      go_ret
      exact⟨ret_slice HF.out,rfl⟩
theorem Trim_own (k:TypeId)(B:Nat)(v:Value)(xs:List Nat)(hB:∀ x∈xs,x<BB)(w:World)(h:Own .u64 k B w v xs) :
 Calls Tryz.prog 136 #[v] w fun e w'=>∃ v',e=.returned v'∧Own .u64 k B w v' (digs (wval xs))∧w=w':=by
 have hd:xs.take (digs (wval xs)).length=digs (wval xs)∧(digs (wval xs)).length≤xs.length:=by
  have hlen:(digs (wval xs)).length≤xs.length:=digs_length_le (wval_lt xs hB)
  refine⟨?_,hlen⟩
  generalize hm:(digs (wval xs)).length=m at hlen
  have key:∀ (n:Nat),Zs xs n→digs (wval xs)=xs.take (digs (wval xs)).length:=by
   intro n
   induction n with
   | zero=>intro hz;have e:=digs_take hz.1 hB hz.2 (Or.inl rfl);have:=hz.fin hB (Or.inl rfl);rw[← this];exact e
   | succ n ih =>
     intro hz
     by_cases h0:xs.getD n 0=0
     · exact ih (by have:=hz.step (by simpa using h0);simpa using this)
     · have e:=digs_take hz.1 hB hz.2 (Or.inr (by simpa using h0))
       have:=hz.fin hB (Or.inr (by simpa using h0))
       rw[← this];exact e
  rw[← hm]
  exact(key _ (Zs.start xs)).symm
 have h0:=h
 obtain⟨h1,h2⟩:=h
 rcases h2 with⟨rfl,h3⟩|⟨g,cap,cur,rfl,hg,hh,hn,hc,hs,ht⟩
 · obtain rfl:xs=[]:=List.length_eq_zero_iff.1 h3
   have hz:digs (wval [])=[]:=by unfold wval;exact digs_zero
   rw[hz]
   clear hd hB h0 hz
   go_enter Tryz.func136,Tryz.ntmps136
   go_wp2
   refine wp_loop_rounds 1 ?_
   rw[rounds_succ]
   go_wp2
   go_ret
   exact⟨_,rfl,Own.nil _ _ _ _,rfl⟩
 · have hrd:∀ i,i<xs.length→w.cell? ⟨g,0+i,none⟩=some (.int .u64 ((xs.getD i 0:Nat):Int)):=by
    rcases h0.rd with⟨hv,_⟩|⟨b,o,c,hv,_,_,_,h5⟩
    · injection hv with hv;cases hv
    · injection hv with e1 e2 e3
      injection e1 with e1
      injection e1 with e4 e5 e6
      subst e4 e5 e3
      exact h5
   refine(Trim_some g 0 cap xs hB hn hc w hrd).mono fun e w' ⟨he,hw⟩=>⟨_,he,?_,hw⟩
   have:=h0.take (digs (wval xs)).length hd.2
   rwa [hd.1]at this
def Blk (w:World) (g:Nat) (zs:List Nat):Prop:=w.heap[g]? = some (.cells (cls .u64 zs).toArray 137 (0,0))
theorem Blk.lt {w:World}{g:Nat}{zs:List Nat}(h:Blk w g zs):g<w.heap.size:=(Array.getElem?_eq_some_iff.1 h).1
theorem Blk.cell {w:World}{g:Nat}{zs:List Nat}(h:Blk w g zs){i:Nat}(hi:i<zs.length):w.cell? ⟨g,i,none⟩=some (.int .u64 ((zs.getD i 0:Nat):Int)):=by
 unfold Blk at h
 have:=cls_get (k:=.u64) hi
 simp only[World.cell?,h]
 simpa using this
theorem Blk.free {w:World}{g:Nat}{zs:List Nat}(h:Blk w g zs)(i:Nat):w.frozen? ⟨g,i,none⟩=false:=by
 unfold Blk at h
 simp only[World.frozen?,h]
 simp
theorem Blk.set {w:World}{g:Nat}{zs:List Nat}(h:Blk w g zs)(i v:Nat):Blk (w.setCell ⟨g,i,none⟩ (.int .u64 ((v:Nat):Int))) g (zs.set i v):=by
 unfold Blk at *
 simp only[World.setCell,Array.getElem?_modify,h]
 simp[cls_set]
theorem Blk.grown {w w':World}{g:Nat}{zs:List Nat}(h:Blk w g zs){row:Option Nat}(hg:w.grownBy w' row)(hne:row≠some g):Blk w' g zs:=by
 unfold Blk at *
 rw[hg.block g (Array.getElem?_eq_some_iff.1 h).1 (fun e=>hne e.symm)]
 exact h
theorem Blk.below {w w':World}{g:Nat}{zs:List Nat}(h:Blk w g zs)(hb:Below w.heap.size w w'):Blk w' g zs:=by
 unfold Blk at *
 rw[hb.block g (Array.getElem?_eq_some_iff.1 h).1]
 exact h
theorem Blk.own {w:World}{g B:Nat}{zs:List Nat}(h:Blk w g zs)(hB:B≤g)(hm:zs.length≤maxLen)(n:Nat)(hn:n≤zs.length):Own .u64 137 B w (.slice (some ⟨g,0,none⟩) n zs.length) (zs.take n):=by
 refine⟨by simp[cls],Or.inr ⟨g,zs.length,(cls .u64 zs).toArray,?_,hB,h,?_,hm,by simp[cls],?_⟩⟩
 · rw[List.length_take,Nat.min_eq_left hn]
 · rw[List.length_take];omega
 · rw[cls_take,List.length_take,Nat.mul_one,Nat.min_eq_left hn]
theorem Blk.of_made {w:World}{B g n:Nat}{xs:List Value}{zs:List Nat}(h:w.ownsRow B 137 1 (.slice (some ⟨g,0,none⟩) n n) n xs)(hx:xs=cls .u64 zs):Blk w g zs:=by
 obtain⟨h1,h2⟩:=h
 rcases h2 with⟨h2,_⟩|⟨g',cap,cur,hv,hg,hh,hn,hc,hs,ht⟩
 · cases h2
 · injection hv with e1 e2 e3
   injection e1 with e1
   injection e1 with e4 e5 e6
   subst e4 e3
   unfold Blk
   rw[hh]
   rw[Nat.mul_one]at ht hs
   rw[List.take_of_length_le (by simpa using Nat.le_of_eq hs)]at ht
   congr 2
   rw[← hx,← ht]
theorem set_mid (pre ys r:List Nat)(x v:Nat):(pre++(ys++(x :: r))).set (pre.length+ys.length) v=pre++((ys++[v])++r):=by
 simp
theorem get_mid (pre ys r:List Nat)(x:Nat):(pre++(ys++(x :: r))).getD (pre.length+ys.length) 0=x:=by
 simp[List.getD]
set_option maxHeartbeats 1000000 in
theorem carryOn_any (g c:Nat)(pre xs post:List Nat)(hM:∀ i,i<xs.length→xs.getD i 0≤MM 18)(hl:xs.length≤1000000)(w:World)(hb:Blk w g (pre++(xs++post))) :
 Calls Tryz.prog 185 #[.slice (some ⟨g,pre.length,none⟩) xs.length c] w fun e w'=>e=.returned (.tuple #[])∧(∃ (ys:List Nat) (k:Nat),ys.length=xs.length∧(∀ y∈ys,y<BB)∧wval ys+BB^xs.length*k=wval xs∧Blk w' g (pre++(ys++post)))∧w.grownBy w' (some g):=by
 have HM:=hid hM
 have HB:=hid hb
 clear hM hb
 go_enter Tryz.func185,Tryz.ntmps185
 go_wp2
 go_loopw [2,3,4,7] (fun cc _ _ ii wr=>∃ (i k:Nat) (ys:List Nat),i≤xs.length∧ii=.int .i64 i∧cc=.int .u64 (k:Int)∧CarInv xs ys i k∧Hid (Blk wr g (pre++(ys++(xs.drop i++post))))∧Hid (w.grownBy wr (some g))) (fun _ _ _ ii _=>xs.length-(intOf ii).toNat)
 case atStart=>exact⟨0,0,[],Nat.zero_le _,rfl,rfl,CarInv.start xs,HB,World.grownBy.refl _ _⟩
 case round =>
  obtain⟨i,k,ys,hi,rfl,rfl,hc,hB,hG⟩:=hrel
  by_cases hlt:i<xs.length
  · obtain⟨hc',hbd⟩:=hc.step hlt (HM.out i hlt)
    have hx0:=hid hc.1
    have hdr:=drop_consD hlt
    have hB':=hB.out
    rw[hdr,List.cons_append]at hB'
    have hyl:ys.length=i:=hc.1
    have hcell:=hB'.cell (i:=pre.length+ys.length) (by simp)
    have hfree:=hB'.free (pre.length+ys.length)
    have hset:=hB'.set (pre.length+ys.length) ((xs.getD i 0+k)%BB)
    rw[get_mid]at hcell
    rw[set_mid]at hset
    rw[hyl]at hcell hfree hset
    have HS:=hid hset
    have hG':=hid (Lib.grownBy_setB hG.out (pre.length+i) (.int .u64 (((xs.getD i 0+k)%BB:Nat):Int)))
    have HC:=hid hc'
    clear hset hdr hB' hyl hc'
    generalize xs.getD i 0=x at *
    have hmod:((x:Int)+(k:Int))%1000000000=(((x+k)%BB:Nat):Int):=by rw[BB_eq];omega
    have hdiv:((x:Int)+(k:Int)) / 1000000000=(((x+k) / BB:Nat):Int):=by rw[BB_eq];omega
    have HMd:=hid hmod
    have HDv:=hid hdiv
    clear hmod hdiv
    go_wp2
    go_roundw
    case rel=>exact⟨i+1,(x+k) / BB,ys++[(x+k)%BB],by omega,by go_num,by rw[HDv.out],HC.out,by rw[HMd.out];exact HS.out,by rw[HMd.out];exact hG'.out⟩
    case measure=>simp[intOf];omega
  · have hi':i=xs.length:=by omega
    have hfin:=hc
    rw[hi']at hfin
    have hfin:=hfin.done
    have hB':=hB.out
    rw[hi',List.drop_of_length_le (Nat.le_refl _),List.nil_append]at hB'
    have HF:=hid hfin
    have HB':=hid hB'
    clear hfin hB' hi'
    go_wp2
    go_end0
    obtain⟨h1,h2,h3⟩:=HF.out
    exact⟨rfl,⟨ys,k,h1,h2,h3,HB'.out⟩,hG.out⟩
end Go.Proofs.YtklfllmfcckgjaaGreatDoor
