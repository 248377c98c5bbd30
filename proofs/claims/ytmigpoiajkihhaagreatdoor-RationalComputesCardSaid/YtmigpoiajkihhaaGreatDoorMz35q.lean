/- Texts of this proof, one behind the other. -/
import Derived.Test.YtmigpoiajkihhaaGreatDoorMz17q
namespace Go.Gb
open Go
def ldig (v m:Nat):List UInt8:=(List.range m).map fun t=>UInt8.ofNat (48+v / 10^t%10)
theorem ldig_length (v m:Nat):(ldig v m).length=m:=by simp[ldig]
theorem ldig_succ (v m:Nat):ldig v (m+1)=ldig v m++[UInt8.ofNat (48+v / 10^m%10)]:=by
 unfold ldig
 rw[List.range_succ]
 simp
theorem ldig_cons (v m:Nat):ldig v (m+1)=UInt8.ofNat (48+v%10) :: ldig (v / 10) m:=by
 unfold ldig
 rw[List.range_succ_eq_map]
 simp only[List.map_cons,List.map_map,Nat.pow_zero,Nat.div_one]
 congr 1
 apply List.map_congr_left
 intro t _
 simp only[Function.comp,Nat.div_div_eq_div_mul,Nat.pow_succ,Nat.mul_comm]
theorem ldig_reverse:∀ (m v:Nat),10^m≤v→v<10^(m+1)→(ldig v (m+1)).reverse=Lib.decDigits v
 | 0,v,h1,h2=>by
   rw[ldig_cons]
   have hv:v<10:=by simpa using h2
   have h0:1≤v:=by simpa using h1
   rw[Nat.mod_eq_of_lt hv]
   rw[Lib.decDigits,dif_pos hv]
   simp[ldig]
 | m+1,v,h1,h2=>by
   rw[ldig_cons,List.reverse_cons,ldig_reverse m (v / 10) (by rw[Nat.le_div_iff_mul_le (by decide)];rw[Nat.pow_succ]at h1;exact h1) (by rw[Nat.div_lt_iff_lt_mul (by decide)];rw[Nat.pow_succ]at h2;exact h2)]
   have hv:¬ v<10:=by
    have:10≤10^(m+1):=by
     rw[Nat.pow_succ]
     have:=Nat.one_le_pow m 10 (by decide)
     omega
    omega
   conv=>rhs;rw[Lib.decDigits,dif_neg hv]
theorem word_digit {xs:List Nat}(hx:∀ x∈xs,x<BB){i k:Nat}(hi:i<xs.length)(hk:k<9):wval xs / 10^(9*i+k)%10=xs.getD i 0 / 10^k%10:=by
 have hsplit:xs=xs.take i++(xs.getD i 0 :: xs.drop (i+1)):=by
  conv=>lhs;rw[← List.take_append_drop i xs]
  congr 1
  rw[List.drop_eq_getElem_cons hi]
  simp[List.getD,hi]
 have hlen:(xs.take i).length=i:=by simp;omega
 have hlt:=wval_lt (xs.take i) (fun x h=>hx x (List.mem_of_mem_take h))
 rw[hlen]at hlt
 have hv:wval xs=wval (xs.take i)+BB^i*(xs.getD i 0+BB*wval (xs.drop (i+1))):=by
  conv=>lhs;rw[hsplit]
  rw[wval_append,hlen]
  rfl
 have hB:BB^i=10^(9*i):=by rw[Nat.pow_mul,show BB=10^9 from by rw[BB_eq]]
 rw[hv,Nat.pow_add,← hB,← Nat.div_div_eq_div_mul,Nat.add_mul_div_left _ _ (Nat.pow_pos BB_pos),Nat.div_eq_of_lt hlt,Nat.zero_add]
 obtain⟨e,he⟩:∃ e,BB=10^k*(10*e):=⟨10^(8-k),by
  rw[show(10:Nat)*10^(8-k)=10^(9-k) by rw[← Nat.pow_succ'];congr 1;omega,← Nat.pow_add,show k+(9-k)=9 by omega,BB_eq]⟩
 rw[he,Nat.mul_assoc,Nat.mul_assoc,Nat.add_mul_div_left _ _ (Nat.pow_pos (by decide)),Nat.add_mul_mod_self_left]
end Go.Gb
namespace Go.Gb
open Go
def swp (L:List UInt8) (i:Nat):List UInt8:=(List.range L.length).map fun j=>if j<i∨L.length<j+1+i then L.getD (L.length-1-j) 0 else L.getD j 0
theorem swp_length (L:List UInt8)(i:Nat):(swp L i).length=L.length:=by simp[swp]
theorem swp_get (L:List UInt8)(i:Nat){j:Nat}(hj:j<L.length):(swp L i).getD j 0=if j<i∨L.length<j+1+i then L.getD (L.length-1-j) 0 else L.getD j 0:=by
 unfold swp
 simp[List.getD,hj]
theorem getD_ext {A B:List UInt8}(h:A.length=B.length)(hg:∀ j,j<A.length→A.getD j 0=B.getD j 0):A=B:=by
 apply List.ext_getElem h
 intro j h1 h2
 have:=hg j h1
 simpa [List.getD,h1,h2] using this
theorem swp_zero (L:List UInt8):swp L 0=L:=by
 refine getD_ext (swp_length L 0) (fun j hj=>?_)
 rw[swp_length]at hj
 rw[swp_get L 0 hj,if_neg (by omega)]
theorem swp_done (L:List UInt8)(i:Nat)(h:L.length≤2*i+1):swp L i=L.reverse:=by
 refine getD_ext (by rw[swp_length,List.length_reverse]) (fun j hj=>?_)
 rw[swp_length]at hj
 rw[swp_get L i hj]
 have hr:L.reverse.getD j 0=L.getD (L.length-1-j) 0:=by
  have h2:L.length-1-j<L.length:=by omega
  simp[List.getD,hj,h2]
 rw[hr]
 split
 · rfl
 · rename_i hn
   rw[show L.length-1-j=j by omega]
theorem swp_low (L:List UInt8)(i:Nat)(h:2*i+1<L.length):(swp L i).getD i 0=L.getD i 0:=by
 rw[swp_get L i (by omega),if_neg (by omega)]
theorem swp_high (L:List UInt8)(i:Nat)(h:2*i+1<L.length):(swp L i).getD (L.length-1-i) 0=L.getD (L.length-1-i) 0:=by
 rw[swp_get L i (by omega),if_neg (by omega)]
theorem swp_succ (L:List UInt8)(i:Nat)(h:2*i+1<L.length):((swp L i).set i (L.getD (L.length-1-i) 0)).set (L.length-1-i) (L.getD i 0)=swp L (i+1):=by
 refine getD_ext (by simp[swp_length]) (fun j hj=>?_)
 simp[swp_length]at hj
 have hs:∀ (A:List UInt8) (m:Nat) (v:UInt8),j<A.length→(A.set m v).getD j 0=if m=j then v else A.getD j 0:=by
  intro A m v hA
  by_cases hm:m=j
  · subst hm;simp[List.getD,hA]
  · simp[List.getD,hm]
 rw[hs _ _ _ (by simp[swp_length,hj]),hs _ _ _ (by simp[swp_length,hj]),swp_get L i hj,swp_get L (i+1) hj]
 by_cases h1:L.length-1-i=j
 · rw[if_pos h1,if_pos (by omega),← h1,show L.length-1-(L.length-1-i)=i by omega]
 · rw[if_neg h1]
   by_cases h2:i=j
   · subst h2
     rw[if_pos rfl,if_pos (by omega)]
   · rw[if_neg h2]
     by_cases h3:j<i∨L.length<j+1+i
     · rw[if_pos h3,if_pos (by omega)]
     · rw[if_neg h3,if_neg (by omega)]
end Go.Gb
namespace Go.Gb
open Go
theorem word_top {xs:List Nat}(hx:∀ x∈xs,x<BB){i:Nat}(hi:xs.length=i+1)(k:Nat):wval xs / 10^(9*i+k)=xs.getD i 0 / 10^k:=by
 have h1:=wval_split xs i (by omega)
 have h2:wval (xs.drop i)=xs.getD i 0:=by
  rw[wval_drop (by omega),List.drop_of_length_le (by omega)]
  simp[wval]
 have hlt:=wval_take_lt xs hx i
 have hB:BB^i=10^(9*i):=by rw[Nat.pow_mul,show BB=10^9 from by rw[BB_eq]]
 rw[h2]at h1
 rw[h1,Nat.pow_add,← hB,← Nat.div_div_eq_div_mul,Nat.add_mul_div_left _ _ (Nat.pow_pos BB_pos),Nat.div_eq_of_lt hlt,Nat.zero_add]
def TOut (xs:List Nat) (bs:List UInt8) (i:Nat):Prop :=
 (i<xs.length∧bs=ldig (wval xs) (9*i))∨(i=xs.length∧∃ m,bs=ldig (wval xs) (m+1)∧10^m≤wval xs∧wval xs<10^(m+1))
def TIn (xs:List Nat) (bs:List UInt8) (i k q:Nat):Prop :=
 k≤9∧q=xs.getD i 0 / 10^k∧bs=ldig (wval xs) (9*i+k)∧(k=0∨i+1<xs.length∨xs.getD i 0 / 10^(k-1)≠0)
theorem TOut.zero {xs:List Nat}(h:0<xs.length):TOut xs [] 0:=Or.inl ⟨h,rfl⟩
theorem TIn.start {xs:List Nat}{bs:List UInt8}{i:Nat}(h:TOut xs bs i)(hi:i<xs.length):TIn xs bs i 0 (xs.getD i 0):=by
 rcases h with⟨_,h⟩|⟨h,_⟩
 · exact⟨by omega,by simp,h,Or.inl rfl⟩
 · omega
theorem TIn.len {xs:List Nat}{bs:List UInt8}{i k q:Nat}(h:TIn xs bs i k q):bs.length=9*i+k:=by rw[h.2.2.1,ldig_length]
theorem TIn.lt {xs:List Nat}{bs:List UInt8}{i k q:Nat}(h:TIn xs bs i k q)(hi:i<xs.length)(hx:∀ x∈xs,x<BB):q<1000000000:=by
 have h1:=hx _ (mem_getD hi)
 rw[BB_eq]at h1
 rw[h.2.1]
 exact Nat.lt_of_le_of_lt (Nat.div_le_self _ _) h1
theorem TIn.step {xs:List Nat}{bs:List UInt8}{i k q:Nat}(h:TIn xs bs i k q)(hi:i<xs.length)(hx:∀ x∈xs,x<BB)(hk:k<9)(hg:i+1<xs.length∨0<q) :
 TIn xs (bs++[UInt8.ofNat (48+q%10)]) i (k+1) (q / 10):=by
 obtain⟨h1,h2,h3,h4⟩:=h
 refine⟨by omega,?_,?_,?_⟩
 · rw[h2,Nat.div_div_eq_div_mul,Nat.pow_succ]
 · rw[h3,h2,← word_digit hx hi hk,← ldig_succ]
   rfl
 · rcases hg with hg|hg
   · exact Or.inr (Or.inl hg)
   · right;right
     rw[Nat.add_sub_cancel,← h2]
     omega
theorem TIn.done {xs:List Nat}{bs:List UInt8}{i k q:Nat}(h:TIn xs bs i k q)(hi:i<xs.length)(hx:∀ x∈xs,x<BB)(hl:xs.getD (xs.length-1) 0≠0)(hg:k=9∨(i+1=xs.length∧q=0)):TOut xs bs (i+1):=by
 obtain⟨h1,h2,h3,h4⟩:=h
 by_cases hlt:i+1<xs.length
 · obtain rfl:k=9:=by omega
   exact Or.inl ⟨hlt,by rw[h3,Nat.mul_add]⟩
 · have hi1:xs.length=i+1:=by omega
   have hw:=hx _ (mem_getD hi)
   rw[BB_eq]at hw
   rw[show xs.length-1=i by omega]at hl
   have hq0:q=0:=by
    rcases hg with hg|hg
    · rw[h2,hg,Nat.div_eq_of_lt (by omega)]
    · exact hg.2
   obtain⟨j,rfl⟩:∃ j,k=j+1:=by
    refine⟨k-1,?_⟩
    rcases Nat.eq_zero_or_pos k with h0|h0
    · rw[h0,Nat.pow_zero,Nat.div_one]at h2
      omega
    · omega
   have h5:xs.getD i 0 / 10^j≠0:=by
    rcases h4 with h4|h4|h4
    · omega
    · omega
    · rwa [Nat.add_sub_cancel]at h4
   have e1:=word_top hx hi1 j
   have e2:=word_top hx hi1 (j+1)
   rw[← h2,hq0]at e2
   refine Or.inr ⟨hi1.symm,9*i+j,h3,?_,?_⟩
   · rcases Nat.lt_or_ge (wval xs) (10^(9*i+j)) with h|h
     · rw[Nat.div_eq_of_lt h]at e1
       exact absurd e1.symm h5
     · exact h
   · rcases Nat.lt_or_ge (wval xs) (10^(9*i+(j+1))) with h|h
     · exact h
     · have:=Nat.div_pos h (Nat.pow_pos (by decide))
       omega
theorem TOut.done {xs:List Nat}{bs:List UInt8}(h:TOut xs bs xs.length):bs.reverse=Lib.decDigits (wval xs)∧0<bs.length:=by
 rcases h with⟨h,_⟩|⟨_,m,h1,h2,h3⟩
 · omega
 · rw[h1]
   exact⟨ldig_reverse m _ h2 h3,by rw[ldig_length];omega⟩
theorem TOut.len {xs:List Nat}{bs:List UInt8}{i:Nat}(h:TOut xs bs i)(hx:∀ x∈xs,x<BB):bs.length≤9*xs.length:=by
 rcases h with⟨h,e⟩|⟨_,m,h1,h2,h3⟩
 · rw[e,ldig_length];omega
 · rw[h1,ldig_length]
   have h4:=wval_lt xs hx
   rw[show BB=10^9 from by rw[BB_eq],← Nat.pow_mul]at h4
   have h5:10^m<10^(9*xs.length):=by omega
   have:=(Nat.pow_lt_pow_iff_right (by decide:1<10)).1 h5
   omega
end Go.Gb
namespace Go.Proofs.YtmigpoiajkihhaaGreatDoor
open Go.RowKit Go.Gb
def RowB (w:World) (g cap:Nat) (bs:List UInt8):Prop:=∃ cur:Array Value,w.heap[g]? = some (.cells cur 5 (0,0))∧cur.size=cap∧bs.length≤cap∧cur.toList.take bs.length=Lib.byteCells bs
theorem byteCells_get {bs:List UInt8}{i:Nat}(h:i<bs.length):(Lib.byteCells bs)[i]? = some (.int .u8 ((bs.getD i 0).toNat:Int)):=by
 simp[Lib.byteCells,List.getD,h]
theorem RowB.cell {w:World}{g cap:Nat}{bs:List UInt8}(h:RowB w g cap bs){i:Nat}(hi:i<bs.length):w.cell? ⟨g,i,none⟩=some (.int .u8 ((bs.getD i 0).toNat:Int)):=by
 obtain⟨cur,h1,h2,h3,h4⟩:=h
 have h5:=byteCells_get hi
 rw[← h4,List.getElem?_take,if_pos hi]at h5
 simp only[World.cell?,h1]
 simpa using h5
theorem RowB.free {w:World}{g cap:Nat}{bs:List UInt8}(h:RowB w g cap bs)(i:Nat):w.frozen? ⟨g,i,none⟩=false:=by
 obtain⟨cur,h1,h2,h3,h4⟩:=h
 simp only[World.frozen?,h1]
 simp
theorem RowB.set {w:World}{g cap:Nat}{bs:List UInt8}(h:RowB w g cap bs)(i:Nat)(v:UInt8):RowB (w.setCell ⟨g,i,none⟩ (.int .u8 (v.toNat:Int))) g cap (bs.set i v):=by
 obtain⟨cur,h1,h2,h3,h4⟩:=h
 refine⟨cur.setIfInBounds i (.int .u8 (v.toNat:Int)),?_,by simp[h2],by simpa using h3,?_⟩
 · simp only[World.setCell,Array.getElem?_modify,h1]
   simp
 · rw[List.length_set,Lib.byteCells,List.map_set,Array.toList_setIfInBounds,List.take_set,h4]
   rfl
theorem RowB.of_own {w:World}{B:Nat}{v:Value}{bs:List UInt8}(h:w.ownsRow B 5 1 v bs.length (Lib.byteCells bs))(hp:0<bs.length):∃ g cap,v=.slice (some ⟨g,0,none⟩) bs.length cap∧B≤g∧cap≤maxLen∧RowB w g cap bs:=by
 obtain⟨h1,h2⟩:=h
 rcases h2 with⟨h2,h3⟩|⟨g,cap,cur,hv,hg,hh,hn,hc,hs,ht⟩
 · omega
 · rw[Nat.mul_one]at hs ht
   exact⟨g,cap,hv,hg,hc,cur,hh,hs,hn,ht⟩
end Go.Proofs.YtmigpoiajkihhaaGreatDoor
set_option maxRecDepth 100000
set_option maxHeartbeats 20000000
open Go.Lib (hid)
namespace Go.Proofs.YtmigpoiajkihhaaGreatDoor
open Go.RowKit Go.Gb
theorem Tryz.info81:(Tryz.prog.info? 81).map (fun i=>(i.zero,i.size,i.bytes))=some (some (.int .u32 0),1,4):=by kernel_rfl
theorem rtrim_some (b o c:Nat)(xs:List Nat)(hB:∀ x∈xs,x<BB)(hxc:xs.length≤c)(hcm:c≤maxLen)(w:World)
 (hc:∀ i,i<xs.length→w.cell? ⟨b,o+i,none⟩=some (.int .u32 ((xs.getD i 0:Nat):Int))) :
 Calls Tryz.prog 111 #[.slice (some ⟨b,o,none⟩) xs.length c] w fun e w'=>e=.returned (.slice (some ⟨b,o,none⟩) (digs (wval xs)).length c)∧w=w':=by
 unfold maxLen at hcm
 have HC:=hid hc
 have HB:=hid hB
 clear hc hB
 go_enter Tryz.func111,Tryz.ntmps111
 go_wp2
 go_loop [0] (fun x=>∃ n:Nat,n≤c∧x=.slice (some ⟨b,o,none⟩) n c∧Zs xs n) (fun x=>match x with | .slice _ n _=>n|_=>0)
 case atStart=>exact⟨xs.length,hxc,rfl,Zs.start xs⟩
 case round =>
  obtain⟨n,hn,rfl,hz⟩:=hrel
  by_cases h0:n=0
  · have HF:=hid (hz.fin HB.out (Or.inl h0))
    subst h0
    go_wp2
    go_ret
    exact⟨ret_slice HF.out,rfl⟩
  · have hp:0<n:=by omega
    have hcell:=HC.out (n-1) (by have:=hz.1;omega)
    by_cases hd:xs.getD (n-1) 0=0
    · rw[hd]at hcell
      have hz':=hz.step hd
      clear hd
      go_wp2
      go_round
      case rel=>exact⟨n-1,by omega,rfl,hz'⟩
      case measure=>simp;omega
    · have HF:=hid (hz.fin HB.out (Or.inr hd))
      obtain⟨d,hdd⟩:∃ d,d=xs.getD (n-1) 0:=⟨_,rfl⟩
      rw[← hdd]at hcell hd
      have hb:((d:Int)==0)=false:=by simpa using hd
      have hd':0<d:=by omega
      clear hd hdd
      go_wp2
      go_ret
      exact⟨ret_slice HF.out,rfl⟩
theorem rtrim_own (k:TypeId)(B:Nat)(v:Value)(xs:List Nat)(hB:∀ x∈xs,x<BB)(w:World)(h:Own .u32 k B w v xs) :
 Calls Tryz.prog 111 #[v] w fun e w'=>∃ v',e=.returned v'∧Own .u32 k B w v' (digs (wval xs))∧w=w':=by
 have hd:xs.take (digs (wval xs)).length=digs (wval xs)∧(digs (wval xs)).length≤xs.length:=by
  have hlen:(digs (wval xs)).length≤xs.length:=digs_length_le (wval_lt xs hB)
  refine⟨?_,hlen⟩
  generalize hm:(digs (wval xs)).length=m at hlen
  have key:∀ (n:Nat),Zs xs n→digs (wval xs)=xs.take (digs (wval xs)).length:=by
   intro n
   induction n with
   | zero=>intro hz;have e:=digs_take hz.1 hB hz.2 (Or.inl rfl);have:=hz.fin hB (Or.inl rfl);rw[← this];exact e
   | succ n ih =>
     intro hz
     by_cases h0:xs.getD n 0=0
     · exact ih (by have:=hz.step (by simpa using h0);simpa using this)
     · have e:=digs_take hz.1 hB hz.2 (Or.inr (by simpa using h0))
       have:=hz.fin hB (Or.inr (by simpa using h0))
       rw[← this];exact e
  rw[← hm]
  exact(key _ (Zs.start xs)).symm
 have h0:=h
 obtain⟨h1,h2⟩:=h
 rcases h2 with⟨rfl,h3⟩|⟨g,cap,cur,rfl,hg,hh,hn,hc,hs,ht⟩
 · obtain rfl:xs=[]:=List.length_eq_zero_iff.1 h3
   have hz:digs (wval [])=[]:=by unfold wval;exact digs_zero
   rw[hz]
   clear hd hB h0 hz
   go_enter Tryz.func111,Tryz.ntmps111
   go_wp2
   refine wp_loop_rounds 1 ?_
   rw[rounds_succ]
   go_wp2
   go_ret
   exact⟨_,rfl,Own.nil _ _ _ _,rfl⟩
 · have hrd:∀ i,i<xs.length→w.cell? ⟨g,0+i,none⟩=some (.int .u32 ((xs.getD i 0:Nat):Int)):=by
    rcases h0.rd with⟨hv,_⟩|⟨b,o,c,hv,_,_,_,h5⟩
    · injection hv with hv;cases hv
    · injection hv with e1 e2 e3
      injection e1 with e1
      injection e1 with e4 e5 e6
      subst e4 e5 e3
      exact h5
   refine(rtrim_some g 0 cap xs hB hn hc w hrd).mono fun e w' ⟨he,hw⟩=>⟨_,he,?_,hw⟩
   have:=h0.take (digs (wval xs)).length hd.2
   rwa [hd.1]at this
theorem RValid_any (s:ByteArray)(w:World)(hs:s.size≤maxLen) :
 Calls Tryz.prog 80 #[.string s] w fun e w'=>e=.returned (.bool (vld s.data.toList))∧w=w':=by
 unfold maxLen at hs
 have hcase:s.size=0∨(s.size=1∨(1<s.size∧∃ h:0<s.size,((s[0].toNat:Int) != 48)=true))∨(1<s.size∧∃ h:0<s.size,((s[0].toNat:Int) != 48)=false):=by
  rcases Nat.lt_trichotomy s.size 1 with h|h|h
  · left;omega
  · right;left;left;exact h
  · have h0:0<s.size:=by omega
    by_cases hc:(s[0].toNat:Int)=48
    · right;right;exact⟨h,h0,by rw[bne_eq_false_iff_eq];exact hc⟩
    · right;left;right;exact⟨h,h0,by rw[bne_iff_ne];exact hc⟩
 rcases hcase with h0|(h1|⟨h1,h2,h3⟩)|⟨h1,h2,h3⟩
 · have HF:=hid (show vld s.data.toList=false by rw[list_nil h0];rfl)
   have k1:s.size≤0:=by omega
   have k2:((s.size:Int)==1)=false:=beq_eq_false_iff_ne.2 (by omega)
   clear h0
   go_enter Tryz.func80,Tryz.ntmps80
   go_wp2
   refine wp_loop_rounds 1 ?_
   rw[rounds_succ]
   go_wp2
   go_ret
   exact⟨ret_bool HF.out.symm,rfl⟩
 · have k2:((s.size:Int)==1)=true:=beq_iff_eq.2 (by omega)
   have H1:=hid h1
   have k3:0<s.size:=by omega
   clear h1
   go_enter Tryz.func80,Tryz.ntmps80
   go_wp2
   go_loop [3] (fun i=>∃ k:Nat,k≤s.size∧i=.int .i64 k∧alld s k) (fun i=>s.size-(intOf i).toNat)
   case atStart=>exact⟨0,Nat.zero_le _,rfl,alld_zero s⟩
   case round =>
    obtain⟨k,hk,rfl,ha⟩:=hrel
    go_wp2
    all_goals first
        | (go_round
           case rel=>exact⟨k+1,by omega,by go_num,alld_succ ha (by assumption) (by omega) (by omega)⟩
           case measure=>simp[intOf];omega)
        | (have hlt:k<s.size:=by assumption
           go_ret
           exact⟨ret_bool (vld_bad hlt (by omega)).symm,rfl⟩)
        | (obtain rfl:k=s.size:=by omega
           go_ret
           exact⟨ret_bool (vld_end k3 ha (Or.inl H1.out)).symm,rfl⟩)
 · have k2:((s.size:Int)==1)=false:=beq_eq_false_iff_ne.2 (by omega)
   go_enter Tryz.func80,Tryz.ntmps80
   go_wp2
   go_loop [3] (fun i=>∃ k:Nat,k≤s.size∧i=.int .i64 k∧alld s k) (fun i=>s.size-(intOf i).toNat)
   case atStart=>exact⟨0,Nat.zero_le _,rfl,alld_zero s⟩
   case round =>
    obtain⟨k,hk,rfl,ha⟩:=hrel
    go_wp2
    all_goals first
        | (go_round
           case rel=>exact⟨k+1,by omega,by go_num,alld_succ ha (by assumption) (by omega) (by omega)⟩
           case measure=>simp[intOf];omega)
        | (have hlt:k<s.size:=by assumption
           go_ret
           exact⟨ret_bool (vld_bad hlt (by omega)).symm,rfl⟩)
        | (obtain rfl:k=s.size:=by omega
           go_ret
           exact⟨ret_bool (vld_end h2 ha (Or.inr (by rw[bne_iff_ne]at h3;exact h3))).symm,rfl⟩)
 · have k2:((s.size:Int)==1)=false:=beq_eq_false_iff_ne.2 (by omega)
   go_enter Tryz.func80,Tryz.ntmps80
   go_wp2
   go_loop [3] (fun i=>∃ k:Nat,k≤s.size∧i=.int .i64 k∧alld s k) (fun i=>s.size-(intOf i).toNat)
   case atStart=>exact⟨0,Nat.zero_le _,rfl,alld_zero s⟩
   case round =>
    obtain⟨k,hk,rfl,ha⟩:=hrel
    go_wp2
    all_goals first
        | (go_round
           case rel=>exact⟨k+1,by omega,by go_num,alld_succ ha (by assumption) (by omega) (by omega)⟩
           case measure=>simp[intOf];omega)
        | (have hlt:k<s.size:=by assumption
           go_ret
           exact⟨ret_bool (vld_bad hlt (by omega)).symm,rfl⟩)
        | (obtain rfl:k=s.size:=by omega
           go_ret
           exact⟨ret_bool (vld_zero h1 (by rw[bne_eq_false_iff_eq]at h3;exact h3)).symm,rfl⟩)
theorem part_succ {s:ByteArray}(h:s.data.toList.all isD=true){a i:Nat}(hai:a≤i)(hi:i<s.size) :
 dval ((s.data.toList.drop a).take (i+1-a))=dval ((s.data.toList.drop a).take (i-a))*10+(s[i].toNat-48)∧48≤s[i].toNat∧s[i].toNat≤57:=by
 have h1:=List.all_eq_true.1 h (s.data.toList[i]'(by rw[size_list];exact hi)) (List.getElem_mem _)
 rw[isD_iff,get_list s i hi]at h1
 have e:(s.data.toList.drop a).take (i+1-a)=(s.data.toList.drop a).take (i-a)++[s[i]]:=by
  rw[show i+1-a=(i-a)+1 by omega,List.take_succ_eq_append_getElem (by rw[List.length_drop,size_list];omega)]
  congr 2
  rw[List.getElem_drop,← get_list s i hi]
  congr 1
  omega
 rw[e,dval_snoc]
 exact⟨rfl,h1⟩
theorem part_lt {s:ByteArray}(h:s.data.toList.all isD=true)(a n:Nat)(hn:n≤8):dval ((s.data.toList.drop a).take n)<100000000:=by
 have h1:=dval_lt ((s.data.toList.drop a).take n) (by
  rw[List.all_eq_true]at h ⊢
  exact fun c hc=>h c (List.mem_of_mem_drop (List.mem_of_mem_take hc)))
 have h2:10^((s.data.toList.drop a).take n).length≤10^8:=Nat.pow_le_pow_right (by decide) (by rw[List.length_take];omega)
 omega
theorem RFrom_any (s:ByteArray)(h:s.data.toList.all isD=true)(hl:s.size≤100000)(w:World) :
 Calls Tryz.prog 70 #[.string s] w fun e w'=>∃ v,e=.returned v∧Own .u32 81 w.heap.size w' v (digs (dval s.data.toList))∧Below w.heap.size w w':=by
 obtain⟨i0,hi,hz0,hz1,hz2⟩:=info_parts Tryz.info81
 have H:=hid h
 clear h
 have HO0:=hid (World.ownsRow_nil w w.heap.size 81 1)
 go_enter Tryz.func70,Tryz.ntmps70
 go_wp2
 go_loopw [3,4] (fun v ee wr=>∃ (z:Int) (os:List Nat),-9≤z∧z≤s.size∧ee=.int .i64 z∧os.length+z.toNat≤s.size∧Hid (wr.ownsRow w.heap.size 81 1 v os.length (cls .u32 os))∧Hid (ReadInv s.data.toList os z.toNat)∧Hid (Below w.heap.size w wr)) (fun _ ee _=>(intOf ee).toNat)
 case atStart=>exact⟨(s.size:Int),[],by omega,by omega,rfl,by simp,HO0,by have:=ReadInv.start s.data.toList;rw[size_list]at this;exact this,Below.refl _ _⟩
 case round =>
  obtain⟨z,os,hz9,hzs,rfl,hlen,ho,hr,hn⟩:=hrel
  by_cases hz:0<z
  · obtain⟨ez,rfl⟩:=Int.eq_ofNat_of_zero_le (show 0≤z by omega)
    obtain⟨a,ha⟩:∃ a:Nat,a=ez-9:=⟨_,rfl⟩
    rw[Int.toNat_natCast]at hr hlen
    obtain⟨hst,hbd⟩:=hr.out.step (a:=a) H.out (by rw[size_list];omega) (by omega) (by omega)
    have HST:=hid hst
    have HBD:=hid hbd
    have hmx:max 0 ((ez:Int)-9)=(a:Int):=by omega
    have hae:a≤ez:=by omega
    have hea:ez≤a+9:=by omega
    have HA:=hid ha
    clear hst hbd ha hr
    go_wp2
    obtain⟨wo,rfl⟩:∃ wo:World,wo=wr:=⟨_,rfl⟩
    go_loop [5,6] (fun ww ii=>∃ i m:Nat,a≤i∧i≤ez∧ii=.int .i64 i∧ww=.int .u32 (m:Int)∧Hid (m=dval ((s.data.toList.drop a).take (i-a)))) (fun _ ii=>ez-(intOf ii).toNat)
    case atStart=>exact⟨a,0,Nat.le_refl _,hae,rfl,rfl,by rw[Nat.sub_self];rfl⟩
    case round =>
        obtain⟨i,m,hai,hie,rfl,rfl,hm⟩:=hrel
        by_cases hlt:i<ez
        · obtain⟨h1,h2,h3⟩:=part_succ H.out hai (show i<s.size by omega)
          have h4:m<100000000:=by rw[hm.out];exact part_lt H.out a (i-a) (by omega)
          have h5:i<s.size:=by omega
          have H1:=hid h1
          clear h1
          have k4:(m:Int)≤99999999:=by omega
          clear h4
          go_wp2
          go_round
          case rel=>exact⟨i+1,m*10+(s[i].toNat-48),by omega,by omega,by go_num,by congr 1;omega,by have:=hm.out;subst this;exact H1.out.symm⟩
          case measure=>simp[intOf];omega
        · have hie2:i=ez:=by omega
          have hm':=hm.out
          rw[hie2]at hm'
          have HM:=hid hm'
          clear hm hm' hie2
          go_wp2_with (at_builtin;refine wpList_append_own _ rfl _ _ 48 rfl w.heap.size 81 i0 (.int .u32 0) 1 4 Tryz.underlying48 hi hz0 hz1 hz2 rfl (by decide) _ _ _ rfl (ho.out.alloc _) ⟨wo.heap.size,0,none⟩ 1 1 [.int .u32 (m:Int)] rfl rfl (cells_one _ _ _) (by intro u hu;simp at hu;subst hu;rfl) (by unfold maxLen;omega) (by omega) (by have:=hn.out.size;simp;omega) ?_)
          intro v' w1 hown' hgrow _
          have HO:=hid hown'
          have HN:=hid ((hn.out.alloc hn.out.size _).grown hgrow (by have:=hn.out.size;simp;omega) (fun k hk=>(ho.out.lt k hk).1))
          clear hown' hgrow
          go_wp2
          go_roundw
          case rel=>exact⟨(ez:Int)-9,os++[m],by omega,by omega,rfl,by simp;omega,by have:=HO.out;rw[cls_append,List.length_append];exact this,by rw[show((ez:Int)-9).toNat=a by have:=HA.out;omega,HM.out];exact HST,HN⟩
          case measure=>simp[intOf];omega
  · have hz0':z.toNat=0:=by omega
    have hr':=hr.out
    rw[hz0']at hr'
    obtain⟨hB,hv⟩:=hr'.done
    have htr:=rtrim_own 81 w.heap.size _ os hB wr ho.out
    rw[hv]at htr
    have HTR:=hid htr
    clear hr' hB hv htr hz0'
    go_wp2_with fail
    refine HTR.out.mono ?_
    rintro e w2 ⟨v',rfl,hown,rfl⟩
    go_wp2
    go_ret
    exact⟨v',rfl,hown,hn.out⟩
end Go.Proofs.YtmigpoiajkihhaaGreatDoor
