/- Texts of this proof, one behind the other. -/
import Derived.Test.YthjmjlfnpnbonaaGreatDoorWc
import Derived.BigQuiet
set_option maxRecDepth 100000
set_option maxHeartbeats 20000000
open Go.Lib (hid)
namespace Go.Proofs.YthjmjlfnpnbonaaGreatDoor
open Go.RowKit Go.Gb
def ReadInv (l:List UInt8) (os:List Nat) (e:Nat):Prop:=(∀ x∈os,x<BB)∧wval os+BB^os.length*dval (l.take e)=dval l
theorem ReadInv.start (l:List UInt8):ReadInv l [] l.length:=⟨by simp,by rw[List.take_of_length_le (Nat.le_refl _)];simp[wval]⟩
theorem ReadInv.step {l:List UInt8}{os:List Nat}{e a:Nat}(h:ReadInv l os e)(hl:l.all isD=true)(he:e≤l.length)(hea:a≤e)(h9:e-a=9∨(a=0∧e-a≤9)) :
 ReadInv l (os++[dval ((l.drop a).take (e-a))]) a∧dval ((l.drop a).take (e-a))<BB:=by
 obtain⟨h1,h2⟩:=h
 have e1:l.take e=l.take a++(l.drop a).take (e-a):=by
  rw[show l.take e=l.take (a+(e-a)) by rw[show a+(e-a)=e by omega],List.take_add]
 have hlen:((l.drop a).take (e-a)).length=e-a:=by rw[List.length_take,List.length_drop];omega
 have hall:((l.drop a).take (e-a)).all isD=true:=by
  rw[List.all_eq_true]at hl ⊢
  exact fun c hc=>hl c (List.mem_of_mem_drop (List.mem_of_mem_take hc))
 have hlt:=dval_lt _ hall
 rw[hlen]at hlt
 have hp:10^(e-a)≤10^9:=Nat.pow_le_pow_right (by decide) (by omega)
 have hB:=BB_eq
 refine⟨⟨?_,?_⟩,by omega⟩
 · intro x hx
   rcases List.mem_append.1 hx with hx|hx
   · exact h1 x hx
   · have:=List.mem_singleton.1 hx;omega
 · rw[e1,dval_append,hlen]at h2
   have key:dval ((l.drop a).take (e-a))+BB*dval (l.take a)=dval (l.take a)*10^(e-a)+dval ((l.drop a).take (e-a)):=by
    rcases h9 with h9|⟨h9,h10⟩
    · rw[h9,hB,Nat.mul_comm 1000000000];omega
    · subst h9
      have h0:dval (l.take 0)=0:=rfl
      rw[h0];simp
   rw[wval_snoc,List.length_append,List.length_singleton,Nat.pow_succ,Nat.mul_assoc,Nat.add_assoc,← Nat.mul_add,key]
   exact h2
theorem ReadInv.done {l:List UInt8}{os:List Nat}(h:ReadInv l os 0):(∀ x∈os,x<BB)∧wval os=dval l:=by
 obtain⟨h1,h2⟩:=h
 have h0:dval (l.take 0)=0:=rfl
 rw[h0,Nat.mul_zero,Nat.add_zero]at h2
 exact⟨h1,h2⟩
theorem extract_list (s:ByteArray)(a e:Nat):(s.extract a e).data.toList=(s.data.toList.drop a).take (e-a):=by
 rw[ByteArray.data_extract,Array.toList_extract,List.extract_eq_take_drop]
theorem cells_one (w:World)(v:Value)(T:TypeId):∀ j u,[v][j]? = some u→(w.alloc (.cells #[v] T)).cell? ((⟨w.heap.size,0,none⟩:Addr).add j)=some u:=by
 intro j u hj
 match j,hj with
 | 0,hj=>simp at hj;subst hj;simp[Addr.add]
theorem Read_any (s:ByteArray)(h:s.data.toList.all isD=true)(hl:s.size≤100000)(w:World) :
 Calls Tryz.prog 165 #[.string s] w fun e w'=>∃ v,e=.returned v∧Own .u64 110 w.heap.size w' v (digs (dval s.data.toList))∧Below w.heap.size w w':=by
 obtain⟨i0,hi,hz0,hz1,hz2⟩:=info_parts Tryz.info110
 have H:=hid h
 clear h
 go_enter Tryz.func165,Tryz.ntmps165
 go_wp2_with (at_make;refine wpList_make_own _ rfl _ _ 174 rfl w.heap.size 110 i0 (.int .u64 0) 1 Tryz.underlying174 hi hz0 hz1 _ _ _ ((s.size+8) / 9) rfl rfl (by omega) ?b2 ?b3 (Nat.le_refl _) ?_)
 case b2=>rw[hz2];omega
 case b3=>unfold maxLen;omega
 intro w0 hown0 hgrow0
 have HN0:=hid ((Below.refl w.heap.size w).grown hgrow0 (Nat.le_refl _) (fun k h=>by cases h))
 have HO0:=hid hown0
 clear hown0 hgrow0
 go_wp2
 go_loopw [3,4] (fun v ee wr=>∃ (z:Int) (os:List Nat),-9≤z∧z≤s.size∧ee=.int .i64 z∧os.length+z.toNat≤s.size∧Hid (wr.ownsRow w.heap.size 110 1 v os.length (cls .u64 os))∧Hid (ReadInv s.data.toList os z.toNat)∧Hid (Below w.heap.size w wr)) (fun _ ee _=>(intOf ee).toNat)
 case atStart=>exact⟨(s.size:Int),[],by omega,by omega,rfl,by simp,HO0,by have:=ReadInv.start s.data.toList;rw[size_list]at this;exact this,HN0⟩
 case round =>
  obtain⟨z,os,hz9,hzs,rfl,hlen,ho,hr,hn⟩:=hrel
  by_cases hz:0<z
  · obtain⟨a,ha⟩:∃ a:Nat,a=(z-9).toNat:=⟨_,rfl⟩
    obtain⟨hst,hbd⟩:=hr.out.step (a:=a) H.out (by rw[size_list];omega) (by omega) (by omega)
    rw[← extract_list]at hst hbd
    have hex:(s.extract a z.toNat).data.toList.all isD=true:=by
        rw[extract_list]
        have:=H.out
        rw[List.all_eq_true]at this ⊢
        exact fun c hc=>this c (List.mem_of_mem_drop (List.mem_of_mem_take hc))
    have hval:=value_any (s.extract a z.toNat) hex (by rw[ByteArray.size_extract];omega)
    have HV:=hid hval
    have HST:=hid hst
    have HA:=hid ha
    clear hst hex hval ha
    go_wp2_with fail
    rw[show(max 0 (z-9)).toNat=a from by rw[HA.out];omega]
    refine(HV.out _).mono ?_
    rintro e w1 ⟨rfl,rfl⟩
    generalize dval (s.extract a z.toNat).data.toList=d at *
    have HD:=hid hbd
    clear hbd HV
    go_wp2_with (at_builtin;refine wpList_append_own _ rfl _ _ 174 rfl w.heap.size 110 i0 (.int .u64 0) 1 8 Tryz.underlying174 hi hz0 hz1 hz2 rfl (by decide) _ _ _ rfl (ho.out.alloc _) ⟨wr.heap.size,0,none⟩ 1 1 [.int .u64 (d:Int)] rfl rfl (cells_one _ _ _) (by intro u hu;simp at hu;subst hu;rfl) (by unfold maxLen;omega) (by omega) (by have:=hn.out.size;simp;omega) ?_)
    intro v' w1 hown' hgrow _
    have HO:=hid hown'
    have HN:=hid ((hn.out.alloc hn.out.size _).grown hgrow (by have:=hn.out.size;simp;omega) (fun k hk=>(ho.out.lt k hk).1))
    clear hown' hgrow
    go_wp2
    go_roundw
    case rel=>exact⟨z-9,os++[d],by omega,by omega,rfl,by simp;omega,by have:=HO.out;rw[cls_append,List.length_append];exact this,by rw[show(z-9).toNat=a from HA.out.symm];exact HST,HN⟩
    case measure=>simp[intOf];omega
  · have hz0':z.toNat=0:=by omega
    have hr':=hr.out
    rw[hz0']at hr'
    obtain⟨hB,hv⟩:=hr'.done
    have htr:=Trim_own 110 w.heap.size _ os hB wr ho.out
    rw[hv]at htr
    have HTR:=hid htr
    clear hr' hB hv htr hz0'
    go_wp2_with fail
    refine HTR.out.mono ?_
    rintro e w2 ⟨v',rfl,hown,rfl⟩
    go_wp2
    go_ret
    exact⟨v',rfl,hown,hn.out⟩
end Go.Proofs.YthjmjlfnpnbonaaGreatDoor
set_option maxRecDepth 100000
set_option maxHeartbeats 20000000
open Go.Lib (hid)
namespace Go.Proofs.YthjmjlfnpnbonaaGreatDoor
open Go.RowKit Go.Gb
theorem Tryz.info5:(Tryz.prog.info? 5).map (fun i=>(i.zero,i.size,i.bytes))=some (some (.int .u8 0),1,1):=by kernel_rfl
theorem ownsRow_below {w w':World}{B:Nat}{e:TypeId}{v:Value}{n:Nat}{xs:List Value}(h:w.ownsRow B e 1 v n xs)(hb:Below w.heap.size w w'):w'.ownsRow B e 1 v n xs:=by
 obtain⟨h1,h2⟩:=h
 refine⟨h1,?_⟩
 rcases h2 with h2|⟨g,cap,cur,hv,hg,hh,r⟩
 · exact Or.inl h2
 · exact Or.inr ⟨g,cap,cur,hv,hg,by rw[hb.block g (Array.getElem?_eq_some_iff.1 hh).1];exact hh,r⟩
def Byt (T:TypeId) (w:World) (g:Nat) (ds:List UInt8):Prop:=w.heap[g]? = some (.cells (Lib.byteCells ds).toArray T (0,0))
theorem Byt.cell {T:TypeId}{w:World}{g:Nat}{ds:List UInt8}(h:Byt T w g ds){i:Nat}(hi:i<ds.length):w.cell? ⟨g,i,none⟩=some (.int .u8 ((ds.getD i 0).toNat:Int)):=by
 unfold Byt at h
 simp only[World.cell?,h]
 simp[Lib.byteCells,List.getD,hi]
theorem Byt.free {T:TypeId}{w:World}{g:Nat}{ds:List UInt8}(h:Byt T w g ds)(i:Nat):w.frozen? ⟨g,i,none⟩=false:=by
 unfold Byt at h
 simp only[World.frozen?,h]
 simp
theorem Byt.set {T:TypeId}{w:World}{g:Nat}{ds:List UInt8}(h:Byt T w g ds)(i:Nat)(v:UInt8):Byt T (w.setCell ⟨g,i,none⟩ (.int .u8 (v.toNat:Int))) g (ds.set i v):=by
 unfold Byt at *
 simp only[World.setCell,Array.getElem?_modify,h]
 simp[Lib.byteCells,List.map_set]
def PadInv (m:Nat) (ds:List UInt8) (k:Nat):Prop:=ds.length=9∧∀ j,k≤j→j<9→ds.getD j 0=UInt8.ofNat (48+m / 10^(8-j)%10)
theorem PadInv.step {m:Nat}{ds:List UInt8}{k:Nat}(h:PadInv m ds (k+1))(hk:k<9):PadInv m (ds.set k (UInt8.ofNat (48+m / 10^(8-k)%10))) k:=by
 obtain⟨h1,h2⟩:=h
 refine⟨by simp[h1],fun j hj hj9=>?_⟩
 by_cases e:k=j
 · subst e;simp[List.getD,h1,hk]
 · have:=h2 j (by omega) hj9
   simpa [List.getD,List.getElem?_set,e] using this
theorem PadInv.done {m:Nat}{ds:List UInt8}(h:PadInv m ds 0):ds=pad9 m:=by
 obtain⟨h1,h2⟩:=h
 apply List.ext_getElem
 · rw[h1,pad9_length]
 · intro j hj1 hj2
   have:=h2 j (by omega) (by omega)
   have e:ds.getD j 0=ds[j]:=by simp[List.getD,hj1]
   rw[← e,this]
   simp[pad9]
theorem appendWord_any (B n m:Nat)(hm:m<1000000000)(sv:Value)(xs:List Value)(w:World)(hown:w.ownsRow B 5 1 sv n xs)(hBw:B≤w.heap.size)(hlim:n≤1000000) :
 Calls Tryz.prog 158 #[sv,.int .u64 (m:Int)] w fun e w'=>∃ v',e=.returned v'∧w'.ownsRow B 5 1 v' (n+9) (xs++Lib.byteCells (pad9 m))∧Below B w w':=by
 obtain⟨i0,hi,hz0,hz1,hz2⟩:=info_parts Tryz.info5
 have HO:=hid hown
 clear hown
 have h0:Byt 224 (w.alloc (.cells #[.int .u8 0,.int .u8 0,.int .u8 0,.int .u8 0,.int .u8 0,.int .u8 0,.int .u8 0,.int .u8 0,.int .u8 0] 224)) w.heap.size (List.replicate 9 0):=by
  unfold Byt;rw[heap_alloc_new];rfl
 have H0:=hid h0
 clear h0
 go_enter Tryz.func158,Tryz.ntmps158
 go_wp2
 go_loopw [1,6] (fun ww ii wr=>∃ (z:Int) (q:Nat) (ds:List UInt8),-1≤z∧z≤8∧ii=.int .i64 z∧ww=.int .u64 (q:Int)∧q<1000000000∧Hid (q=m / 10^(9-(z+1).toNat))∧Hid (PadInv m ds (z+1).toNat)∧Hid (Byt 224 wr w.heap.size ds)∧Hid (Below w.heap.size w wr)) (fun _ ii _=>(intOf ii+1).toNat)
 case atStart=>exact⟨8,m,_,by omega,by omega,rfl,rfl,hm,by show m=m / 10^0;simp,by refine⟨by simp,fun j h1 h2=>?_⟩;have:((8:Int)+1).toNat=9:=rfl;omega,H0,(Below.refl _ _).alloc (Nat.le_refl _) _⟩
 case round =>
  obtain⟨z,q,ds,hz1',hz8,rfl,rfl,hq,hqe,hp,hb,hn⟩:=hrel
  by_cases hz:0≤z
  · obtain⟨j,rfl⟩:=Int.eq_ofNat_of_zero_le hz
    have hp':=hp.out
    have hqe':=hqe.out
    rw[show((j:Int)+1).toNat=j+1 by omega]at hp' hqe'
    have hst:=hp'.step (by omega)
    have hq8:m / 10^(8-j)=q:=by rw[hqe',show 9-(j+1)=8-j by omega]
    rw[hq8]at hst
    have hcell:=hb.out.cell (i:=j) (by rw[hp'.1];omega)
    have hfree:=hb.out.free j
    have hset:=hb.out.set j (UInt8.ofNat (48+q%10))
    rw[dig_toNat (Nat.mod_lt _ (by decide))]at hset
    have hbel:=hn.out.setCell (p:=⟨w.heap.size,j,none⟩) (Nat.le_refl _) (.int .u8 ((48+q%10:Nat):Int))
    have HST:=hid hst
    have HSET:=hid hset
    have HBEL:=hid hbel
    have HQ:=hid (show q / 10=m / 10^(9-j) by rw[show 9-j=(8-j)+1 by omega,Nat.pow_succ,← Nat.div_div_eq_div_mul,hq8])
    clear hp' hqe' hst hq8 hset hbel
    generalize (ds.getD j 0).toNat=old at *
    have hw1:IntKind.u8.wrap ((q:Int)%10)=(q:Int)%10:=by rw[IntKind.wrap_u8];omega
    go_wp2
    go_roundw
    case rel=>exact⟨(j:Int)-1,q / 10,ds.set j (UInt8.ofNat (48+q%10)),by omega,by omega,rfl,by congr 1,by omega,by rw[show((j:Int)-1+1).toNat=j by omega];exact HQ,by rw[show((j:Int)-1+1).toNat=j by omega];exact HST,HSET,HBEL⟩
    case measure=>simp[intOf]
  · have hz0':(z+1).toNat=0:=by omega
    have hd:=hp.out
    rw[hz0']at hd
    have hds:=hd.done
    have hcl:∀ j u,(Lib.byteCells (pad9 m))[j]? = some u→wr.cell? ((⟨w.heap.size,0,none⟩:Addr).add j)=some u:=by
        intro j u hj
        have hj9:j<9:=by
         have:=(List.getElem?_eq_some_iff.1 hj).1
         simpa [Lib.byteCells,pad9] using this
        rw[Lib.add_plain,Nat.zero_add,hb.out.cell (by rw[hd.1];omega),← hj,hds]
        simp[Lib.byteCells,List.getD,pad9,hj9]
    have HCL:=hid hcl
    have hown:=ownsRow_below HO.out hn.out
    clear hd hds hcl hz0'
    go_wp2_with (at_builtin;refine wpList_append_own _ rfl _ _ 115 rfl B 5 i0 (.int .u8 0) 1 1 Tryz.underlying115 hi hz0 hz1 hz2 rfl (by decide) _ _ _ rfl hown ⟨w.heap.size,0,none⟩ 9 9 (Lib.byteCells (pad9 m)) rfl (by simp[Lib.byteCells,pad9]) HCL.out ?h1 (by unfold maxLen;omega) (by omega) (by have:=hn.out.size;omega) ?_)
    case h1=>intro u hu;obtain⟨c,_,rfl⟩:=List.mem_map.1 hu;rfl
    intro v' w1 hown' hgrow _
    go_wp2
    go_ret
    exact⟨v',rfl,hown',(hn.out.mono hBw).grown hgrow (by have:=hn.out.size;omega) (fun k hk=>(hown.lt k hk).1)⟩
def WrInv (xs:List Nat) (bs:List UInt8) (i:Nat):Prop:=bs=Lib.decDigits (wval (xs.drop i))∧0<wval (xs.drop i)
theorem WrInv.step {xs:List Nat}{bs:List UInt8}{i:Nat}(h:WrInv xs bs (i+1))(hi:i<xs.length)(hx:∀ x∈xs,x<BB):WrInv xs (bs++pad9 (xs.getD i 0)) i:=by
 obtain⟨h1,h2⟩:=h
 have hw:=hx _ (mem_getD hi)
 unfold WrInv
 rw[wval_drop hi,dec_word h2 hw,← h1]
 refine⟨rfl,?_⟩
 have:0<BB*wval (xs.drop (i+1)):=Nat.mul_pos BB_pos h2
 omega
theorem nDigits_le:∀ (k:Nat) {t:Nat},1≤k→t<10^k→Lib.nDigits t≤k
 | 0,_,h,_=>by omega
 | k+1,t,_,h=>by
   by_cases h10:t<10
   · rw[Lib.nDigits_small h10];omega
   · rw[Lib.nDigits_big h10]
     rw[Nat.pow_succ]at h
     have hk:1≤k:=by
      rcases Nat.eq_zero_or_pos k with h0|h0
      · subst h0;simp at h;omega
      · exact h0
     have:=nDigits_le k hk (show t / 10<10^k by omega)
     omega
theorem WrInv_start {xs:List Nat}{t:Nat}(hne:0<xs.length)(ht:t=xs.getD (xs.length-1) 0)(h0:t≠0):WrInv xs (Lib.decDigits t) (xs.length-1):=by
 have e:wval (xs.drop (xs.length-1))=t:=by
  rw[wval_drop (by omega),← ht,List.drop_of_length_le (by omega)]
  simp[wval]
 unfold WrInv
 rw[e]
 exact⟨rfl,by omega⟩
theorem Write_some (b o c:Nat)(xs:List Nat)(hx:∀ x∈xs,x<BB)(hne:0<xs.length)(hlast:xs.getD (xs.length-1) 0≠0)(hl:xs.length≤100000)(w:World)(hb:b<w.heap.size)(htab:Tb w)
 (hcx:∀ i,i<xs.length→w.cell? ⟨b,o+i,none⟩=some (.int .u64 ((xs.getD i 0:Nat):Int))) :
 CR 140 #[.slice (some ⟨b,o,none⟩) xs.length c] w (.string ⟨(Lib.decDigits (wval xs)).toArray⟩):=by
 obtain⟨i0,hi,hz0,hz1,hz2⟩:=info_parts Tryz.info5
 have HT:=hid htab
 have HX:=hid hx
 have HC:=hid hcx
 have hmk:∀ W,(Instr.makeSlice 115 (.int .i64 0) (.int .i64 ((xs.length:Int)*9))).run Tryz.prog W=.ok (.slice (some ⟨W.heap.size,0,none⟩) 0 (xs.length*9)) (W.alloc (.cells (madeCells #[.int .u8 0] (xs.length*9)) 5)):=fun W=>by
  have h:=run_make (P:=Tryz.prog) W 115 5 i0 (.int .u8 0) Tryz.underlying115 hi hz0 .i64 .i64 0 ((xs.length:Int)*9) (by omega) (by omega) (by rw[hz2];omega) (by omega)
  rw[h,hz1,show((xs.length:Int)*9).toNat=xs.length*9 by omega,Nat.mul_one]
  rfl
 have hcell:=HC.out (xs.length-1) (by omega)
 obtain⟨t,ht⟩:∃ t,t=xs.getD (xs.length-1) 0:=⟨_,rfl⟩
 have htB:t<BB:=by rw[ht];exact hx _ (mem_getD (by omega))
 have HB:=BB_eq
 have hn0:((xs.length:Int)==0)=false:=beq_eq_false_iff_ne.2 (by omega)
 have hw9:IntKind.i64.wrap ((xs.length:Int)*9)=(xs.length:Int)*9:=IntWalk.i64_in _ (by omega)
 have hi0:(0:Int)≤(xs.length:Int)-1:=by omega
 have hi1:((xs.length:Int)-1).toNat=xs.length-1:=by omega
 have HTU:=hid (show t<18446744073709551616 by omega)
 have HMD:=hid (World.ownsRow_made (base:=w.heap.size) (e:=5) (size:=1) w (madeCells #[.int .u8 0] (xs.length*9)) (xs.length*9) (Nat.le_refl _) (by unfold maxLen;omega) (by rw[size_madeCells,Nat.mul_one]))
 have HTA:=hid (htab.on ((Below.refl w.heap.size w).alloc (Nat.le_refl _) (.cells (madeCells #[.int .u8 0] (xs.length*9)) 5)))
 rw[← ht]at hcell hlast
 have HTT:=hid ht
 clear htab hx hcx ht
 go_enter Tryz.func140,Tryz.ntmps140
 go_wp2_with fail
 go_region_with (go_at_call 157;go_must (refine(AppendUint_any w.heap.size 0 t HTU.out _ [] _ (by exact HMD.out) (by simp) (by omega) (by exact HTA.out)).mono ?_;rintro e w1 ⟨v1,rfl,hown1,hb1⟩))
 all_goals
  have hb0:=hid (((Below.refl w.heap.size w).alloc (Nat.le_refl _) (.cells (madeCells #[.int .u8 0] (xs.length*9)) 5)).drew.trans hb1)
  have hT1:=hid (HT.out.on hb0.out)
  have hO1:=hid hown1
  clear hown1 hb1 hmk hw9 hcell
  go_wp2
  go_loopw [4,5] (fun v ii wr=>∃ (z:Int) (bs:List UInt8),-1≤z∧z+1<xs.length∧ii=.int .i64 z∧bs.length+9*(z+1)≤9+9*xs.length∧Hid (WrInv xs bs (z+1).toNat)∧Hid (wr.ownsRow w.heap.size 5 1 v bs.length (Lib.byteCells bs))∧Hid (Tb wr)∧Hid (Below w.heap.size w wr)) (fun _ ii _=>(intOf ii+1).toNat)
  case atStart=>exact⟨(xs.length:Int)-2,Lib.decDigits t,by omega,by omega,by congr 1;omega,by have:=nDigits_le 9 (by omega) (show t<10^9 by omega);rw[Lib.decDigits_length];omega,by rw[show((xs.length:Int)-2+1).toNat=xs.length-1 by omega];exact WrInv_start hne HTT.out hlast,by have:=hO1.out;simp only[Nat.zero_add,List.nil_append]at this;exact this,hT1,hb0⟩
  case round =>
   clear hO1 hT1 hb0
   obtain⟨z,bs,hz1',hz8,rfl,hlen,hw,ho,hT,hn⟩:=hrel
   by_cases hz:0≤z
   · obtain⟨j,rfl⟩:=Int.eq_ofNat_of_zero_le hz
     have hw':=hw.out
     rw[show((j:Int)+1).toNat=j+1 by omega]at hw'
     have hst:=hw'.step (by omega) HX.out
     have hxb:=HX.out _ (mem_getD (show j<xs.length by omega))
     have hcell:=(hn.out.cell (p:=⟨b,o+j,none⟩) hb).trans (HC.out j (by omega))
     have haw:=appendWord_any w.heap.size bs.length (xs.getD j 0) (by omega) _ _ wr ho.out hn.out.size (by omega)
     have HAW:=hid haw
     have HST:=hid hst
     clear hw' hst haw
     generalize xs.getD j 0=x at *
     go_wp2_with fail
     refine HAW.out.mono ?_
     rintro e w1 ⟨v1,rfl,hown1,hb1⟩
     have hO1:=hid hown1
     have hN1:=hid (hn.out.trans hb1)
     have hT1:=hid (HT.out.on hN1.out)
     clear hown1 hb1
     go_wp2
     go_roundw
     case rel=>exact⟨(j:Int)-1,bs++pad9 x,by omega,by omega,rfl,by rw[List.length_append,pad9_length];omega,by rw[show((j:Int)-1+1).toNat=j by omega];exact HST,by have:=hO1.out;rw[List.length_append,pad9_length,Lib.byteCells_append];exact this,hT1,hN1⟩
     case measure=>simp[intOf]
   · have hz0':(z+1).toNat=0:=by omega
     have hw':=hw.out
     rw[hz0']at hw'
     obtain⟨hw1,hw2⟩:=hw'
     rw[List.drop_zero]at hw1
     obtain⟨ol,oc⟩:=ho.out
     rcases oc with⟨_,hnil⟩|⟨g,cap,cur,rfl,hg,hh,hn',hc',hs',ht'⟩
     · have hbn:=dec_ne_nil (wval xs)
       rw[← hw1]at hbn
       exact absurd (List.length_eq_zero_iff.1 hnil) hbn
     · have hcv:(convert 115 9 (.slice (some ⟨g,0,none⟩) bs.length cap)).run Tryz.prog wr=.ok (.string ⟨bs.toArray⟩) wr :=
        run_convert_bytes_back (P:=Tryz.prog) wr 115 9 5 ⟨g,0,none⟩ cap bs Tryz.underlying115 Tryz.underlying5 Tryz.underlying9 (fun j hj=>by
         have:=ho.out.cells (g:=g) rfl j (.int .u8 ((bs[j]).toNat:Int)) (by simp[Lib.byteCells,hj])
         exact this)
       have HW1:=hid hw1
       clear hw1 hw2 hz0' ol hg hh hn' hc' hs' ht'
       go_wp2
       go_ret
       exact⟨ret_str HW1.out,hn.out⟩
theorem Write_zero (a:Option Addr)(c:Nat)(w:World) :
 Calls Tryz.prog 140 #[.slice a 0 c] w fun e w'=>e=.returned (.string ⟨(Lib.decDigits 0).toArray⟩)∧w=w':=by
 go_enter Tryz.func140,Tryz.ntmps140
 go_wp2
 go_ret
 refine⟨?_,rfl⟩
 rw[Lib.decDigits_one (by decide)]
 rfl
theorem Write_any (v:Value)(n:Nat)(hl:(digs n).length≤100000)(w:World)(h:Rd .u64 w v (digs n))(htab:Tb w) :
 CR 140 #[v] w (.string ⟨(Lib.decDigits n).toArray⟩):=by
 by_cases h0:n=0
 · subst h0
   rw[digs_zero]at h
   rcases h with⟨rfl,_⟩|⟨b,o,c,rfl,_⟩
   · exact(Write_zero none 0 w).mono fun e w' ⟨h1,h2⟩=>⟨h1,h2▸Below.refl _ _⟩
   · exact(Write_zero _ c w).mono fun e w' ⟨h1,h2⟩=>⟨h1,h2▸Below.refl _ _⟩
 · have hne:digs n≠[]:=by rw[digs_pos h0];simp
   have hp:0<(digs n).length:=List.length_pos_iff.2 hne
   rcases h with⟨_,h⟩|⟨b,o,c,rfl,_,_,hb,hc⟩
   · exact absurd h hne
   · have hlast:(digs n).getD ((digs n).length-1) 0≠0:=by
        have:=digs_last n hne
        rw[List.getLast_eq_getElem]at this
        rwa [getD_of_lt (by omega)]
     have:=Write_some b o c (digs n) (digs_lt n) hp hlast hl w hb htab hc
     rw[wval_digs]at this
     exact this
open Go.RowKit Go.Gb
def RowB (w:World) (g cap:Nat) (bs:List UInt8):Prop:=∃ cur:Array Value,w.heap[g]? = some (.cells cur 5 (0,0))∧cur.size=cap∧bs.length≤cap∧cur.toList.take bs.length=Lib.byteCells bs
theorem byteCells_get {bs:List UInt8}{i:Nat}(h:i<bs.length):(Lib.byteCells bs)[i]? = some (.int .u8 ((bs.getD i 0).toNat:Int)):=by
 simp[Lib.byteCells,List.getD,h]
theorem RowB.cell {w:World}{g cap:Nat}{bs:List UInt8}(h:RowB w g cap bs){i:Nat}(hi:i<bs.length):w.cell? ⟨g,i,none⟩=some (.int .u8 ((bs.getD i 0).toNat:Int)):=by
 obtain⟨cur,h1,h2,h3,h4⟩:=h
 have h5:=byteCells_get hi
 rw[← h4,List.getElem?_take,if_pos hi]at h5
 simp only[World.cell?,h1]
 simpa using h5
theorem RowB.free {w:World}{g cap:Nat}{bs:List UInt8}(h:RowB w g cap bs)(i:Nat):w.frozen? ⟨g,i,none⟩=false:=by
 obtain⟨cur,h1,h2,h3,h4⟩:=h
 simp only[World.frozen?,h1]
 simp
theorem RowB.set {w:World}{g cap:Nat}{bs:List UInt8}(h:RowB w g cap bs)(i:Nat)(v:UInt8):RowB (w.setCell ⟨g,i,none⟩ (.int .u8 (v.toNat:Int))) g cap (bs.set i v):=by
 obtain⟨cur,h1,h2,h3,h4⟩:=h
 refine⟨cur.setIfInBounds i (.int .u8 (v.toNat:Int)),?_,by simp[h2],by simpa using h3,?_⟩
 · simp only[World.setCell,Array.getElem?_modify,h1]
   simp
 · rw[List.length_set,Lib.byteCells,List.map_set,Array.toList_setIfInBounds,List.take_set,h4]
   rfl
theorem RowB.of_own {w:World}{B:Nat}{v:Value}{bs:List UInt8}(h:w.ownsRow B 5 1 v bs.length (Lib.byteCells bs))(hp:0<bs.length):∃ g cap,v=.slice (some ⟨g,0,none⟩) bs.length cap∧B≤g∧cap≤maxLen∧RowB w g cap bs:=by
 obtain⟨h1,h2⟩:=h
 rcases h2 with⟨h2,h3⟩|⟨g,cap,cur,hv,hg,hh,hn,hc,hs,ht⟩
 · omega
 · rw[Nat.mul_one]at hs ht
   exact⟨g,cap,hv,hg,hc,cur,hh,hs,hn,ht⟩
end Go.Proofs.YthjmjlfnpnbonaaGreatDoor
set_option maxRecDepth 100000
set_option maxHeartbeats 20000000
open Go.Lib (hid)
namespace Go.Proofs.YthjmjlfnpnbonaaGreatDoor
open Go.RowKit Go.Gb
theorem below_drewN' {B:Nat}{a w:World}(h:Below B a w)(n:Nat):Below B a (w.drewN n):=h.trans ⟨rfl,rfl,rfl,Nat.le_refl _,fun _ _=>rfl⟩
theorem Less_len (a1 a2:Option Addr)(n m c1 c2:Nat)(h:n≠m)(w:World) :
 Calls Tryz.prog 192 #[.slice a1 n c1,.slice a2 m c2] w fun e w'=>e=.returned (.bool (decide (n<m)))∧w=w':=by
 have hb:((n:Int) != (m:Int))=true:=bne_iff_ne.2 (by omega)
 by_cases hlt:n<m
 · go_enter Tryz.func192,Tryz.ntmps192
   go_wp2
   go_ret
   exact⟨ret_bool (by simp[hlt]),rfl⟩
 · go_enter Tryz.func192,Tryz.ntmps192
   go_wp2
   go_ret
   exact⟨ret_bool (by simp[hlt]),rfl⟩
def EqFrom (xs ys:List Nat) (k:Nat):Prop:=∀ j,k≤j→j<xs.length→xs.getD j 0=ys.getD j 0
theorem Less_some (b1 o1 c1 b2 o2 c2:Nat)(xs ys:List Nat)(hxy:xs.length=ys.length)(hx:∀ x∈xs,x<BB)(hy:∀ y∈ys,y<BB)(hl:xs.length≤1000000)(w:World)
 (hcx:∀ i,i<xs.length→w.cell? ⟨b1,o1+i,none⟩=some (.int .u64 ((xs.getD i 0:Nat):Int)))
 (hcy:∀ i,i<ys.length→w.cell? ⟨b2,o2+i,none⟩=some (.int .u64 ((ys.getD i 0:Nat):Int))) :
 CR 192 #[.slice (some ⟨b1,o1,none⟩) xs.length c1,.slice (some ⟨b2,o2,none⟩) xs.length c2] w (.bool (decide (wval xs<wval ys))):=by
 have HXY:=hid hxy
 have HX:=hid hx
 have HY:=hid hy
 have HCX:=hid hcx
 have HCY:=hid hcy
 clear hxy hx hy hcx hcy
 have hb:((xs.length:Int) != (xs.length:Int))=false:=by simp
 go_enter Tryz.func192,Tryz.ntmps192
 go_wp2
 go_loopw [5] (fun ii wr=>∃ z:Int,-1≤z∧z<xs.length∧ii=.int .i64 z∧Hid (EqFrom xs ys (z+1).toNat)∧Hid (Below w.heap.size w wr)) (fun ii _=>(intOf ii+1).toNat)
 case atStart=>exact⟨(xs.length:Int)-1,by omega,by omega,rfl,fun j h1 h2=>absurd h1 (by omega),Below.refl _ _⟩
 case round =>
  obtain⟨z,hz1',hz8,rfl,he,hn⟩:=hrel
  by_cases hz:0≤z
  · obtain⟨j,rfl⟩:=Int.eq_ofNat_of_zero_le hz
    have hb1:=World.block_lt_of_cell? _ _ (HCX.out j (by omega))
    have hb2:=World.block_lt_of_cell? _ _ (HCY.out j (by have:=HXY.out;omega))
    have hcx:=(hn.out.cell (p:=⟨b1,o1+j,none⟩) hb1).trans (HCX.out j (by omega))
    have hcy:=(hn.out.cell (p:=⟨b2,o2+j,none⟩) hb2).trans (HCY.out j (by have:=HXY.out;omega))
    have he':=he.out
    rw[show((j:Int)+1).toNat=j+1 by omega]at he'
    have HE:=hid he'
    clear he' he
    obtain⟨x,hxe⟩:∃ x,x=xs.getD j 0:=⟨_,rfl⟩
    obtain⟨y,hye⟩:∃ y,y=ys.getD j 0:=⟨_,rfl⟩
    rw[← hxe]at hcx
    rw[← hye]at hcy
    have HXE:=hid hxe
    have HYE:=hid hye
    clear hxe hye hb1 hb2
    have i1:(0:Int)≤(j:Int):=by omega
    have i2:(j:Int)<(xs.length:Int):=by omega
    by_cases hxy:x=y
    · have hb':((x:Int) != (y:Int))=false:=by rw[bne_eq_false_iff_eq];omega
      have HXY2:=hid hxy
      clear hxy
      go_wp2
      go_quiet (fail)
      have hn2:=hid (below_drewN' hn.out nq)
      go_wp2
      go_roundw
      case rel=>exact⟨(j:Int)-1,by omega,by omega,rfl,(fun k h1 h2=>by
       by_cases hk:k=j
       · subst hk;rw[← HXE.out,← HYE.out,HXY2.out]
       · exact HE.out k (by omega) h2),hn2⟩
      case measure=>simp[intOf]
    · have hb':((x:Int) != (y:Int))=true:=by rw[bne_iff_ne];omega
      go_wp2
      go_quiet (fail)
      go_wp2
      have hn2:=below_drewN' hn.out nq
      have hcx2:(wr.drewN nq).cell? ⟨b1,o1+j,none⟩=some (.int .u64 (x:Int)):=hcx
      have hcy2:(wr.drewN nq).cell? ⟨b2,o2+j,none⟩=some (.int .u64 (y:Int)):=hcy
      have HN2:=hid hn2
      clear hcx hcy hn2
      generalize wr.drewN nq=w2 at *
      go_quiet (fail)
      have HN3:=hid (below_drewN' HN2.out nq)
      go_wp2
      go_ret
      refine⟨ret_bool ?_,HN3.out⟩
      have hjl:j<xs.length:=by omega
      rcases Nat.lt_or_ge x y with hlt|hge
      · have hv:=lt_of_word HXY.out hjl HX.out (fun k h1 h2=>HE.out k (by omega) h2) (by rw[← HXE.out,← HYE.out];exact hlt)
        simp[hv];omega
      · have hv:=lt_of_word HXY.out.symm (by have:=HXY.out;omega) HY.out (fun k h1 h2=>(HE.out k (by omega) (by have:=HXY.out;omega)).symm) (show ys.getD j 0<xs.getD j 0 by rw[← HXE.out,← HYE.out];omega)
        have hnv:¬ wval xs<wval ys:=by omega
        simp[hnv];omega
  · have hz0':(z+1).toNat=0:=by omega
    have he':=he.out
    rw[hz0']at he'
    have heq:=hid (eq_of_words HXY.out (fun j hj=>he' j (by omega) hj))
    clear he' hz0'
    go_wp2
    go_ret
    exact⟨ret_bool (by rw[heq.out];simp),hn.out⟩
theorem Less_none (a1 a2:Option Addr)(c1 c2:Nat)(w:World) :
 Calls Tryz.prog 192 #[.slice a1 0 c1,.slice a2 0 c2] w fun e w'=>e=.returned (.bool false)∧w=w':=by
 go_enter Tryz.func192,Tryz.ntmps192
 go_wp2
 refine wp_loop_rounds 1 ?_
 rw[rounds_succ]
 go_wp2
 go_ret
 exact⟨rfl,rfl⟩
theorem rd_form {k:IntKind}{w:World}{v:Value}{xs:List Nat}(h:Rd k w v xs):∃ a c,v=.slice a xs.length c:=by
 rcases h with⟨rfl,rfl⟩|⟨b,o,c,rfl,_⟩
 · exact⟨none,0,rfl⟩
 · exact⟨_,c,rfl⟩
theorem rd_pos {k:IntKind}{w:World}{v:Value}{xs:List Nat}(h:Rd k w v xs)(hp:0<xs.length):∃ b o c,v=.slice (some ⟨b,o,none⟩) xs.length c∧xs.length≤c∧c≤maxLen∧b<w.heap.size∧∀ i,i<xs.length→w.cell? ⟨b,o+i,none⟩=some (.int k ((xs.getD i 0:Nat):Int)):=by
 rcases h with⟨_,rfl⟩|h
 · simp at hp
 · exact h
theorem Less_any (v1 v2:Value)(a b:Nat)(hl:(digs a).length≤1000000)(w:World)(h1:Rd .u64 w v1 (digs a))(h2:Rd .u64 w v2 (digs b)) :
 CR 192 #[v1,v2] w (.bool (decide (a<b))):=by
 by_cases hne:(digs a).length=(digs b).length
 · by_cases h0:(digs a).length=0
   · have ha:a=0:=by have:=wval_digs a;rw[List.length_eq_zero_iff.1 h0]at this;exact this.symm
     have hb:b=0:=by have:=wval_digs b;rw[List.length_eq_zero_iff.1 (show(digs b).length=0 by omega)]at this;exact this.symm
     obtain⟨a1,c1,rfl⟩:=rd_form h1
     obtain⟨a2,c2,rfl⟩:=rd_form h2
     rw[← hne,h0]
     exact(Less_none a1 a2 c1 c2 w).mono fun e w' ⟨g1,g2⟩=>⟨by rw[g1,ha,hb];rfl,g2▸Below.refl _ _⟩
   · obtain⟨b1,o1,c1,rfl,_,_,_,r1⟩:=rd_pos h1 (by omega)
     obtain⟨b2,o2,c2,rfl,_,_,_,r2⟩:=rd_pos h2 (by omega)
     have:=Less_some b1 o1 c1 b2 o2 c2 (digs a) (digs b) hne (digs_lt a) (digs_lt b) hl w r1 r2
     rw[wval_digs,wval_digs]at this
     rw[← hne]
     exact this
 · obtain⟨a1,c1,rfl⟩:=rd_form h1
   obtain⟨a2,c2,rfl⟩:=rd_form h2
   refine(Less_len a1 a2 _ _ c1 c2 hne w).mono fun e w' ⟨g1,g2⟩=>⟨?_,g2▸Below.refl _ _⟩
   rw[g1]
   refine ret_bool ?_
   rcases Nat.lt_or_ge (digs a).length (digs b).length with h|h
   · have:=lt_of_digs_length h
     simp[h,this]
   · have:=lt_of_digs_length (show(digs b).length<(digs a).length by omega)
     have h3:¬ (digs a).length<(digs b).length:=by omega
     have h4:¬ a<b:=by omega
     simp[h3,h4]
end Go.Proofs.YthjmjlfnpnbonaaGreatDoor
