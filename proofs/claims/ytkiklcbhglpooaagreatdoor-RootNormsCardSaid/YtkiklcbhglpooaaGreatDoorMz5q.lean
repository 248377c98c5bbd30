/- texts -/
import Derived.Test.YtkiklcbhglpooaaGreatDoorMz4q
open Go.Proofs.Tryz
set_option maxRecDepth 100000
set_option maxHeartbeats 20000000
open Go.Lib (hid)
namespace Go.Proofs.YtkiklcbhglpooaaGreatDoor
open Go.RowKit Go.Gb
def iB (l:List UInt8) (os:List Nat) (e:Nat):Prop:=(∀ x∈os,x<BB)∧aj os+BB^os.length*aH (l.take e)=aH l
theorem iB.start (l:List UInt8):iB l [] l.length:=⟨by simp,by rw[List.take_of_length_le (Nat.le_refl _)];simp[aj]⟩
theorem iB.step {l:List UInt8}{os:List Nat}{e a:Nat}(h:iB l os e)(hl:l.all isD=true)(he:e≤l.length)(hea:a≤e)(h9:e-a=9∨(a=0∧e-a≤9)) :
 iB l (os++[aH ((l.drop a).take (e-a))]) a∧aH ((l.drop a).take (e-a))<BB:=by
 obtain⟨h1,h2⟩:=h
 have e1:l.take e=l.take a++(l.drop a).take (e-a):=by
  rw[show l.take e=l.take (a+(e-a)) by rw[show a+(e-a)=e by omega],List.take_add]
 have hlen:((l.drop a).take (e-a)).length=e-a:=by rw[List.length_take,List.length_drop];omega
 have w9:((l.drop a).take (e-a)).all isD=true:=by
  rw[List.all_eq_true]at hl ⊢;exact fun c hc=>hl c (List.mem_of_mem_drop (List.mem_of_mem_take hc))
 have hlt:=il _ w9;rw[hlen]at hlt;have hp:10^(e-a)≤10^9:=Nat.pow_le_pow_right (by decide) (by omega);have hB:=aD;refine⟨⟨?_,?_⟩,by omega⟩
 · intro x hx
   rcases List.mem_append.1 hx with hx|hx
   · exact h1 x hx
   · have:=List.mem_singleton.1 hx;omega
 · rw[e1,iq,hlen]at h2
   have key:aH ((l.drop a).take (e-a))+BB*aH (l.take a)=aH (l.take a)*10^(e-a)+aH ((l.drop a).take (e-a)):=by
    rcases h9 with h9|⟨h9,h10⟩
    · rw[h9,hB,Nat.mul_comm 1000000000];omega
    · subst h9
      have h0:aH (l.take 0)=0:=rfl;rw[h0];simp
   rw[dL,List.length_append,List.length_singleton,Nat.pow_succ,Nat.mul_assoc,Nat.add_assoc,← Nat.mul_add,key];exact h2
theorem iB.done {l:List UInt8}{os:List Nat}(h:iB l os 0):(∀ x∈os,x<BB)∧aj os=aH l:=by
 obtain⟨h1,h2⟩:=h;have h0:aH (l.take 0)=0:=rfl;rw[h0,Nat.mul_zero,Nat.add_zero]at h2;exact⟨h1,h2⟩
theorem gB (s:ByteArray)(a e:Nat):(s.extract a e).data.toList=(s.data.toList.drop a).take (e-a):=by
 rw[ByteArray.data_extract,Array.toList_extract,List.extract_eq_take_drop]
theorem cells_one (w:World)(v:Value)(T:TypeId):∀ j u,[v][j]? = some u→(w.alloc (.cells #[v] T)).cell? ((⟨w.heap.size,0,none⟩:Addr).add j)=some u:=by
 intro j u hj
 match j,hj with
 | 0,hj=>simp at hj;subst hj;simp[Addr.add]
theorem gQ (s:ByteArray)(h:s.data.toList.all isD=true)(hl:s.size≤100000)(w:World) :
 Calls Tryz.prog 239 #[.string s] w fun e w'=>∃ v,e=.returned v∧Own .u64 133 w.heap.size w' v (ag (aH s.data.toList))∧Below w.heap.size w w':=by
 obtain⟨i0,hi,hz0,hz1,hz2⟩:=info_parts Tryz.info133;have H:=hid h;clear h;go_enter func239,ntmps239
 go_wp2_with (at_make;refine wpList_make_own _ rfl _ _ 210 rfl w.heap.size 133 i0 (.int .u64 0) 1 underlying210 hi hz0 hz1 _ _ _ ((s.size+8) / 9) rfl rfl (by omega) ?b2 ?b3 (Nat.le_refl _) ?_)
 case b2=>rw[hz2];omega
 case b3=>unfold maxLen;omega
 intro w0 hown0 hgrow0;have HN0:=hid ((Below.refl w.heap.size w).grown hgrow0 (Nat.le_refl _) (fun k h=>by cases h));have HO0:=hid hown0;clear hown0 hgrow0;go_wp2;go_loopw [3,4] (fun v ee wr=>∃ (z:Int) (os:List Nat),-9≤z∧z≤s.size∧ee=.int .i64 z∧os.length+z.toNat≤s.size∧Hid (wr.ownsRow w.heap.size 133 1 v os.length (cls .u64 os))∧Hid (iB s.data.toList os z.toNat)∧Hid (Below w.heap.size w wr)) (fun _ ee _=>(intOf ee).toNat)
 case atStart=>exact⟨(s.size:Int),[],by omega,by omega,rfl,by simp,HO0,by have:=iB.start s.data.toList;rw[aB]at this;exact this,HN0⟩
 case round =>
  obtain⟨z,os,hz9,hzs,rfl,hlen,ho,hr,hn⟩:=hrel;by_cases hz:0<z
  · obtain⟨a,ha⟩:∃ a:Nat,a=(z-9).toNat:=⟨_,rfl⟩
    obtain⟨hst,hbd⟩:=hr.o.step (a:=a) H.o (by rw[aB];omega) (by omega) (by omega);rw[← gB]at hst hbd
    have hex:(s.extract a z.toNat).data.toList.all isD=true:=by
        rw[gB];have:=H.o;rw[List.all_eq_true]at this ⊢;exact fun c hc=>this c (List.mem_of_mem_drop (List.mem_of_mem_take hc))
    have hval:=zS (s.extract a z.toNat) hex (by rw[ByteArray.size_extract];omega);obtain ⟨HV,HST,HA⟩:=av hval hst ha;clear hst hex hval ha;go_wp2_with fail
    rw[show(max 0 (z-9)).toNat=a from by rw[HA.o];omega];refine(HV.o _).mono ?_;rintro e w1 ⟨rfl,rfl⟩;generalize aH (s.extract a z.toNat).data.toList=d at *;have HD:=hid hbd;clear hbd HV;go_wp2_with (at_builtin;refine wpList_append_own _ rfl _ _ 210 rfl w.heap.size 133 i0 (.int .u64 0) 1 8 underlying210 hi hz0 hz1 hz2 rfl (by decide) _ _ _ rfl (ho.o.alloc _) ⟨wr.heap.size,0,none⟩ 1 1 [.int .u64 (d:Int)] rfl rfl (cells_one _ _ _) (by intro u hu;simp at hu;subst hu;rfl) (by unfold maxLen;omega) (by omega) (by have:=hn.o.size;simp;omega) ?_)
    intro v' w1 hown' hgrow _;have HO:=hid hown';have HN:=hid ((hn.o.alloc hn.o.size _).grown hgrow (by have:=hn.o.size;simp;omega) (fun k hk=>(ho.o.lt k hk).1));clear hown' hgrow;go_wp2;go_roundw
    case rel=>exact⟨z-9,os++[d],by omega,by omega,rfl,by simp;omega,by have:=HO.o;rw[bU,List.length_append];exact this,by rw[show(z-9).toNat=a from HA.o.symm];exact HST,HN⟩
    case measure=>simp[intOf];omega
  · have hz0':z.toNat=0:=by omega
    have hr':=hr.o;rw[hz0']at hr';obtain⟨hB,hv⟩:=hr'.done;have htr:=fO 133 w.heap.size _ os hB wr ho.o;rw[hv]at htr;have HTR:=hid htr;clear hr' hB hv htr hz0';go_wp2_with fail
    refine HTR.o.mono ?_;rintro e w2 ⟨v',rfl,hown,rfl⟩;go_wp2;go_ret
    exact⟨v',rfl,hown,hn.o⟩
open Go.Lib (hid)
theorem Tryz.info5:(Tryz.prog.info? 5).map (fun i=>(i.zero,i.size,i.bytes))=some (some (.int .u8 0),1,1):=by kernel_rfl
theorem ownsRow_below {w w':World}{B:Nat}{e:TypeId}{v:Value}{n:Nat}{xs:List Value}(h:w.ownsRow B e 1 v n xs)(hb:Below w.heap.size w w'):w'.ownsRow B e 1 v n xs:=by
 obtain⟨h1,h2⟩:=h;refine⟨h1,?_⟩;rcases h2 with h2|⟨g,cap,cur,hv,hg,hh,r⟩
 · exact Or.inl h2
 · exact Or.inr ⟨g,cap,cur,hv,hg,by rw[hb.block g (Array.getElem?_eq_some_iff.1 hh).1];exact hh,r⟩
def Byt (T:TypeId) (w:World) (g:Nat) (ds:List UInt8):Prop:=w.heap[g]? = some (.cells (Lib.byteCells ds).toArray T (0,0))
theorem Byt.cell {T:TypeId}{w:World}{g:Nat}{ds:List UInt8}(h:Byt T w g ds){i:Nat}(hi:i<ds.length):w.cell? ⟨g,i,none⟩=some (.int .u8 ((ds.getD i 0).toNat:Int)):=by
 unfold Byt at h
 simp only[World.cell?,h];simp[Lib.byteCells,List.getD,hi]
theorem Byt.free {T:TypeId}{w:World}{g:Nat}{ds:List UInt8}(h:Byt T w g ds)(i:Nat):w.frozen? ⟨g,i,none⟩=false:=by
 unfold Byt at h
 simp only[World.frozen?,h];simp
theorem Byt.set {T:TypeId}{w:World}{g:Nat}{ds:List UInt8}(h:Byt T w g ds)(i:Nat)(v:UInt8):Byt T (w.setCell ⟨g,i,none⟩ (.int .u8 (v.toNat:Int))) g (ds.set i v):=by
 unfold Byt at *
 simp only[World.setCell,Array.getElem?_modify,h];simp[Lib.byteCells,List.map_set]
def qD (m:Nat) (ds:List UInt8) (k:Nat):Prop:=ds.length=9∧∀ j,k≤j→j<9→ds.getD j 0=UInt8.ofNat (48+m / 10^(8-j)%10)
theorem qD.step {m:Nat}{ds:List UInt8}{k:Nat}(h:qD m ds (k+1))(hk:k<9):qD m (ds.set k (UInt8.ofNat (48+m / 10^(8-k)%10))) k:=by
 obtain⟨h1,h2⟩:=h;refine⟨by simp[h1],fun j hj hj9=>?_⟩;by_cases e:k=j
 · subst e;simp[List.getD,h1,hk]
 · have:=h2 j (by omega) hj9
   simpa [List.getD,List.getElem?_set,e] using this
theorem qD.done {m:Nat}{ds:List UInt8}(h:qD m ds 0):ds=pad9 m:=by
 obtain⟨h1,h2⟩:=h;apply List.ext_getElem
 · rw[h1,kD]
 · intro j hj1 hj2
   have:=h2 j (by omega) (by omega);have e:ds.getD j 0=ds[j]:=by simp[List.getD,hj1]
   rw[← e,this];simp[pad9]
theorem oU (B n m:Nat)(hm:m<1000000000)(sv:Value)(xs:List Value)(w:World)(hown:w.ownsRow B 5 1 sv n xs)(hBw:B≤w.heap.size)(hlim:n≤1000000) :
 Calls Tryz.prog 232 #[sv,.int .u64 (m:Int)] w fun e w'=>∃ v',e=.returned v'∧w'.ownsRow B 5 1 v' (n+9) (xs++Lib.byteCells (pad9 m))∧Below B w w':=by
 obtain⟨i0,hi,hz0,hz1,hz2⟩:=info_parts Tryz.info5;have HO:=hid hown;clear hown
 have h0:Byt 266 (w.alloc (.cells #[.int .u8 0,.int .u8 0,.int .u8 0,.int .u8 0,.int .u8 0,.int .u8 0,.int .u8 0,.int .u8 0,.int .u8 0] 266)) w.heap.size (List.replicate 9 0):=by
  unfold Byt;rw[heap_alloc_new];rfl
 have H0:=hid h0;clear h0;go_enter func232,ntmps232
 go_wp2;go_loopw [1,6] (fun ww ii wr=>∃ (z:Int) (q:Nat) (ds:List UInt8),-1≤z∧z≤8∧ii=.int .i64 z∧ww=.int .u64 (q:Int)∧q<1000000000∧Hid (q=m / 10^(9-(z+1).toNat))∧Hid (qD m ds (z+1).toNat)∧Hid (Byt 266 wr w.heap.size ds)∧Hid (Below w.heap.size w wr)) (fun _ ii _=>(intOf ii+1).toNat)
 case atStart=>exact⟨8,m,_,by omega,by omega,rfl,rfl,hm,by show m=m / 10^0;simp,by refine⟨by simp,fun j h1 h2=>?_⟩;have:((8:Int)+1).toNat=9:=rfl;omega,H0,(Below.refl _ _).alloc (Nat.le_refl _) _⟩
 case round =>
  obtain⟨z,q,ds,hz1',hz8,rfl,rfl,hq,hqe,hp,hb,hn⟩:=hrel;by_cases hz:0≤z
  · obtain⟨j,rfl⟩:=Int.eq_ofNat_of_zero_le hz
    have hp':=hp.o;have hqe':=hqe.o;rw[show((j:Int)+1).toNat=j+1 by omega]at hp' hqe';have hst:=hp'.step (by omega);have hq8:m / 10^(8-j)=q:=by rw[hqe',show 9-(j+1)=8-j by omega]
    rw[hq8]at hst;have hcell:=hb.o.cell (i:=j) (by rw[hp'.1];omega);have hfree:=hb.o.free j;have hset:=hb.o.set j (UInt8.ofNat (48+q%10));rw[gD (Nat.mod_lt _ (by decide))]at hset;have hbel:=hn.o.setCell (p:=⟨w.heap.size,j,none⟩) (Nat.le_refl _) (.int .u8 ((48+q%10:Nat):Int));obtain ⟨HST,HSET,HBEL⟩:=av hst hset hbel;have HQ:=hid (show q / 10=m / 10^(9-j) by rw[show 9-j=(8-j)+1 by omega,Nat.pow_succ,← Nat.div_div_eq_div_mul,hq8]);clear hp' hqe' hst hq8 hset hbel;generalize (ds.getD j 0).toNat=old at *;have hw1:IntKind.u8.wrap ((q:Int)%10)=(q:Int)%10:=by rw[IntKind.wrap_u8];omega
    go_wp2;go_roundw
    case rel=>exact⟨(j:Int)-1,q / 10,ds.set j (UInt8.ofNat (48+q%10)),by omega,by omega,rfl,by congr 1,by omega,by rw[show((j:Int)-1+1).toNat=j by omega];exact HQ,by rw[show((j:Int)-1+1).toNat=j by omega];exact HST,HSET,HBEL⟩
    case measure=>simp[intOf]
  · have hz0':(z+1).toNat=0:=by omega
    have hd:=hp.o;rw[hz0']at hd;have hds:=hd.done
    have hcl:∀ j u,(Lib.byteCells (pad9 m))[j]? = some u→wr.cell? ((⟨w.heap.size,0,none⟩:Addr).add j)=some u:=by
        intro j u hj
        have hj9:j<9:=by
         have:=(List.getElem?_eq_some_iff.1 hj).1;simpa [Lib.byteCells,pad9] using this
        rw[Lib.add_plain,Nat.zero_add,hb.o.cell (by rw[hd.1];omega),← hj,hds];simp[Lib.byteCells,List.getD,pad9,hj9]
    have HCL:=hid hcl;have hown:=ownsRow_below HO.o hn.o;clear hd hds hcl hz0';go_wp2_with (at_builtin;refine wpList_append_own _ rfl _ _ 182 rfl B 5 i0 (.int .u8 0) 1 1 underlying182 hi hz0 hz1 hz2 rfl (by decide) _ _ _ rfl hown ⟨w.heap.size,0,none⟩ 9 9 (Lib.byteCells (pad9 m)) rfl (by simp[Lib.byteCells,pad9]) HCL.o ?h1 (by unfold maxLen;omega) (by omega) (by have:=hn.o.size;omega) ?_)
    case h1=>intro u hu;obtain⟨c,_,rfl⟩:=List.mem_map.1 hu;rfl
    intro v' w1 hown' hgrow _;go_wp2;go_ret
    exact⟨v',rfl,hown',(hn.o.mono hBw).grown hgrow (by have:=hn.o.size;omega) (fun k hk=>(hown.lt k hk).1)⟩
def wI (xs:List Nat) (bs:List UInt8) (i:Nat):Prop:=bs=Lib.decDigits (aj (xs.drop i))∧0<aj (xs.drop i)
theorem wI.step {xs:List Nat}{bs:List UInt8}{i:Nat}(h:wI xs bs (i+1))(hi:i<xs.length)(hx:∀ x∈xs,x<BB):wI xs (bs++pad9 (xs.getD i 0)) i:=by
 obtain⟨h1,h2⟩:=h;have hw:=hx _ (aV hi);unfold wI
 rw[gq hi,z3j h2 hw,← h1];refine⟨rfl,?_⟩;have:0<BB*aj (xs.drop (i+1)):=Nat.mul_pos bE h2;omega
theorem pW:∀ (k:Nat) {t:Nat},1≤k→t<10^k→Lib.nDigits t≤k
 | 0,_,h,_=>by omega
 | k+1,t,_,h=>by
   by_cases h10:t<10
   · rw[Lib.nDigits_small h10];omega
   · rw[Lib.nDigits_big h10]
     rw[Nat.pow_succ]at h
     have hk:1≤k:=by
      rcases Nat.eq_zero_or_pos k with h0|h0
      · subst h0;simp at h;omega
      · exact h0
     have:=pW k hk (show t / 10<10^k by omega);omega
theorem wH {xs:List Nat}{t:Nat}(hne:0<xs.length)(ht:t=xs.getD (xs.length-1) 0)(h0:t≠0):wI xs (Lib.decDigits t) (xs.length-1):=by
 have e:aj (xs.drop (xs.length-1))=t:=by
  rw[gq (by omega),← ht,List.drop_of_length_le (by omega)];simp[aj]
 unfold wI
 rw[e];exact⟨rfl,by omega⟩
theorem zB (b o c:Nat)(xs:List Nat)(hx:∀ x∈xs,x<BB)(hne:0<xs.length)(hlast:xs.getD (xs.length-1) 0≠0)(hl:xs.length≤100000)(w:World)(hb:b<w.heap.size)(htab:Tb w)
 (hcx:∀ i,i<xs.length→w.cell? ⟨b,o+i,none⟩=some (.int .u64 ((xs.getD i 0:Nat):Int))) :
 CR 204 #[.slice (some ⟨b,o,none⟩) xs.length c] w (.string ⟨(Lib.decDigits (aj xs)).toArray⟩):=by
 obtain⟨i0,hi,hz0,hz1,hz2⟩:=info_parts Tryz.info5;obtain ⟨HT,HX,HC⟩:=av htab hx hcx
 have hmk:∀ W,(Instr.makeSlice 182 (.int .i64 0) (.int .i64 ((xs.length:Int)*9))).run Tryz.prog W=.ok (.slice (some ⟨W.heap.size,0,none⟩) 0 (xs.length*9)) (W.alloc (.cells (madeCells #[.int .u8 0] (xs.length*9)) 5)):=fun W=>by
  have h:=run_make (P:=Tryz.prog) W 182 5 i0 (.int .u8 0) underlying182 hi hz0 .i64 .i64 0 ((xs.length:Int)*9) (by omega) (by omega) (by rw[hz2];omega) (by omega);rw[h,hz1,show((xs.length:Int)*9).toNat=xs.length*9 by omega,Nat.mul_one];rfl
 have hcell:=HC.o (xs.length-1) (by omega);obtain⟨t,ht⟩:∃ t,t=xs.getD (xs.length-1) 0:=⟨_,rfl⟩;have htB:t<BB:=by rw[ht];exact hx _ (aV (by omega))
 have HB:=aD;have hn0:((xs.length:Int)==0)=false:=beq_eq_false_iff_ne.2 (by omega);have hw9:IntKind.i64.wrap ((xs.length:Int)*9)=(xs.length:Int)*9:=IntWalk.i64_in _ (by omega);have hi0:(0:Int)≤(xs.length:Int)-1:=by omega
 have hi1:((xs.length:Int)-1).toNat=xs.length-1:=by omega
 have HTU:=hid (show t<18446744073709551616 by omega);have HMD:=hid (World.ownsRow_made (base:=w.heap.size) (e:=5) (size:=1) w (madeCells #[.int .u8 0] (xs.length*9)) (xs.length*9) (Nat.le_refl _) (by unfold maxLen;omega) (by rw[size_madeCells,Nat.mul_one]));have HTA:=hid (htab.on ((Below.refl w.heap.size w).alloc (Nat.le_refl _) (.cells (madeCells #[.int .u8 0] (xs.length*9)) 5)));rw[← ht]at hcell hlast;have HTT:=hid ht;clear htab hx hcx ht;go_enter func204,ntmps204
 go_wp2_with fail
 go_region_with (go_at_call 231;go_must (refine(oZ w.heap.size 0 t HTU.o _ [] _ (by exact HMD.o) (by simp) (by omega) (by exact HTA.o)).mono ?_;rintro e w1 ⟨v1,rfl,hown1,hb1⟩))
 all_goals
  have hb0:=hid (((Below.refl w.heap.size w).alloc (Nat.le_refl _) (.cells (madeCells #[.int .u8 0] (xs.length*9)) 5)).drew.trans hb1);have hT1:=hid (HT.o.on hb0.o);have hO1:=hid hown1;clear hown1 hb1 hmk hw9 hcell;go_wp2;go_loopw [4,5] (fun v ii wr=>∃ (z:Int) (bs:List UInt8),-1≤z∧z+1<xs.length∧ii=.int .i64 z∧bs.length+9*(z+1)≤9+9*xs.length∧Hid (wI xs bs (z+1).toNat)∧Hid (wr.ownsRow w.heap.size 5 1 v bs.length (Lib.byteCells bs))∧Hid (Tb wr)∧Hid (Below w.heap.size w wr)) (fun _ ii _=>(intOf ii+1).toNat)
  case atStart=>exact⟨(xs.length:Int)-2,Lib.decDigits t,by omega,by omega,by congr 1;omega,by have:=pW 9 (by omega) (show t<10^9 by omega);rw[Lib.decDigits_length];omega,by rw[show((xs.length:Int)-2+1).toNat=xs.length-1 by omega];exact wH hne HTT.o hlast,by have:=hO1.o;simp only[Nat.zero_add,List.nil_append]at this;exact this,hT1,hb0⟩
  case round =>
   clear hO1 hT1 hb0;obtain⟨z,bs,hz1',hz8,rfl,hlen,hw,ho,hT,hn⟩:=hrel;by_cases hz:0≤z
   · obtain⟨j,rfl⟩:=Int.eq_ofNat_of_zero_le hz
     have hw':=hw.o;rw[show((j:Int)+1).toNat=j+1 by omega]at hw';have hst:=hw'.step (by omega) HX.o;have hxb:=HX.o _ (aV (show j<xs.length by omega));have hcell:=(hn.o.cell (p:=⟨b,o+j,none⟩) hb).trans (HC.o j (by omega));have haw:=oU w.heap.size bs.length (xs.getD j 0) (by omega) _ _ wr ho.o hn.o.size (by omega);obtain ⟨HAW,HST⟩:=aC haw hst;clear hw' hst haw;generalize xs.getD j 0=x at *;go_wp2_with fail
     refine HAW.o.mono ?_;rintro e w1 ⟨v1,rfl,hown1,hb1⟩;obtain ⟨hO1,hN1⟩:=aC hown1 (hn.o.trans hb1);have hT1:=hid (HT.o.on hN1.o);clear hown1 hb1;go_wp2;go_roundw
     case rel=>exact⟨(j:Int)-1,bs++pad9 x,by omega,by omega,rfl,by rw[List.length_append,kD];omega,by rw[show((j:Int)-1+1).toNat=j by omega];exact HST,by have:=hO1.o;rw[List.length_append,kD,Lib.byteCells_append];exact this,hT1,hN1⟩
     case measure=>simp[intOf]
   · have hz0':(z+1).toNat=0:=by omega
     have hw':=hw.o;rw[hz0']at hw';obtain⟨hw1,hw2⟩:=hw';rw[List.drop_zero]at hw1;obtain⟨ol,oc⟩:=ho.o;rcases oc with⟨_,hnil⟩|⟨g,cap,cur,rfl,hg,hh,hn',hc',hs',ht'⟩
     · have hbn:=iZ (aj xs)
       rw[← hw1]at hbn;exact absurd (List.length_eq_zero_iff.1 hnil) hbn
     · have hcv:(convert 182 9 (.slice (some ⟨g,0,none⟩) bs.length cap)).run Tryz.prog wr=.ok (.string ⟨bs.toArray⟩) wr :=
        run_convert_bytes_back (P:=Tryz.prog) wr 182 9 5 ⟨g,0,none⟩ cap bs underlying182 underlying5 underlying9 (fun j hj=>by
         have:=ho.o.cells (g:=g) rfl j (.int .u8 ((bs[j]).toNat:Int)) (by simp[Lib.byteCells,hj])
         exact this)
       have HW1:=hid hw1;clear hw1 hw2 hz0' ol hg hh hn' hc' hs' ht';go_wp2;go_ret
       exact⟨z4q HW1.o,hn.o⟩
theorem qB (a:Option Addr)(c:Nat)(w:World) :
 Calls Tryz.prog 204 #[.slice a 0 c] w fun e w'=>e=.returned (.string ⟨(Lib.decDigits 0).toArray⟩)∧w=w':=by
 go_enter func204,ntmps204
 go_wp2;go_ret
 refine⟨?_,rfl⟩;rw[Lib.decDigits_one (by decide)];rfl
theorem jc (v:Value)(n:Nat)(hl:(ag n).length≤100000)(w:World)(h:Rd .u64 w v (ag n))(htab:Tb w) :
 CR 204 #[v] w (.string ⟨(Lib.decDigits n).toArray⟩):=by
 by_cases h0:n=0
 · subst h0
   rw[aN]at h;rcases h with⟨rfl,_⟩|⟨b,o,c,rfl,_⟩
   · exact(qB none 0 w).mono fun e w' ⟨h1,h2⟩=>⟨h1,h2▸Below.refl _ _⟩
   · exact(qB _ c w).mono fun e w' ⟨h1,h2⟩=>⟨h1,h2▸Below.refl _ _⟩
 · have hne:ag n≠[]:=by rw[bG h0];simp
   have hp:0<(ag n).length:=List.length_pos_iff.2 hne;rcases h with⟨_,h⟩|⟨b,o,c,rfl,_,_,hb,hc⟩
   · exact absurd h hne
   · have hlast:(ag n).getD ((ag n).length-1) 0≠0:=by
        have:=lw n hne;rw[List.getLast_eq_getElem]at this;rwa [bO (by omega)]
     have:=zB b o c (ag n) (aQ n) hp hlast hl w hb htab hc;rw[ax]at this;exact this
end Go.Proofs.YtkiklcbhglpooaaGreatDoor
open Go.Lib (hid)
namespace Go.Proofs.YtkiklcbhglpooaaGreatDoor
open Go.RowKit Go.Gb
def Car (w:World) (g c:Nat):Prop:=w.heap[g]? = some (.cells #[.int .u64 ((c:Nat):Int)] 305 (0,0))
theorem Car.lt {w:World}{g c:Nat}(h:Car w g c):g<w.heap.size:=lt_of_block h
theorem Car.set {w:World}{g c:Nat}(h:Car w g c)(d:Nat):Car (w.setCell ⟨g,0,none⟩ (.int .u64 ((d:Nat):Int))) g d:=one_setCell h
theorem Car.other {w:World}{g c:Nat}(h:Car w g c){k:Nat}(hk:k≠g)(i:Nat)(v:Value):Car (w.setCell ⟨k,i,none⟩ v) g c:=by
 unfold Car at *
 rw[Below.heap_setCell _ _ _ _ (fun e=>hk e.symm)];exact h
theorem Blk.other {w:World}{g:Nat}{zs:List Nat}(h:Blk w g zs){k:Nat}(hk:k≠g)(i:Nat)(v:Value):Blk (w.setCell ⟨k,i,none⟩ v) g zs:=by
 unfold Blk at *
 rw[Below.heap_setCell _ _ _ _ (fun e=>hk e.symm)];exact h
theorem Blk.alloc {w:World}(zs:List Nat)(cs:Array Value)(h:cs=(cls .u64 zs).toArray):Blk (w.alloc (.cells cs 133)) w.heap.size zs:=by
 unfold Blk;rw[heap_alloc_new,h]
theorem iW {a w:World}{row:Option Nat}(h:a.grownBy w row){k:Nat}(hk:a.heap.size≤k)(i:Nat)(v:Value):a.grownBy (w.setCell ⟨k,i,none⟩ v) row :=
 ⟨h.os,h.tape,h.output,by have:=h.size;simpa using this,fun j hj hr=>by rw[Below.heap_setCell _ _ _ _ (by simp;omega)];exact h.block j hj hr⟩
theorem yI (g x y c:Nat)(hx:x<1000000000)(hy:y<1000000000)(h:x+y+c<1000000000)(w:World)(hc:Car w g c) :
 Calls Tryz.prog 317 #[.pointer (some ⟨g,0,none⟩),.int .u64 (x:Int),.int .u64 (y:Int)] w fun e w'=>e=.returned (.int .u64 ((x+y+c:Nat):Int))∧w.setCell ⟨g,0,none⟩ (.int .u64 ((0:Nat):Int))=w':=by
 have hcell:=cell_of_one hc;have hfree:=free_of_one hc;have k1:(x:Int)≤999999999:=by omega
 have k2:(y:Int)≤999999999:=by omega
 have k3:(x:Int)+(y:Int)+(c:Int)<1000000000:=by omega
 clear hx hy h hc;go_enter func317,ntmps317
 go_wp2;go_ret
 exact⟨rfl,rfl⟩
theorem z2v (g x y c:Nat)(hx:x<1000000000)(hy:y<1000000000)(hc1:c≤1)(h:1000000000≤x+y+c)(w:World)(hc:Car w g c) :
 Calls Tryz.prog 317 #[.pointer (some ⟨g,0,none⟩),.int .u64 (x:Int),.int .u64 (y:Int)] w fun e w'=>e=.returned (.int .u64 ((x+y+c-1000000000:Nat):Int))∧w.setCell ⟨g,0,none⟩ (.int .u64 ((1:Nat):Int))=w':=by
 have hcell:=cell_of_one hc;have hfree:=free_of_one hc;have k1:(x:Int)≤999999999:=by omega
 have k2:(y:Int)≤999999999:=by omega
 have k3:¬ (x:Int)+(y:Int)+(c:Int)<1000000000:=by omega
 have k4:(c:Int)≤1:=by omega
 clear hx hy h hc1 hc;go_enter func317,ntmps317
 go_wp2;go_ret
 exact⟨dM (by omega),rfl⟩
theorem vI (g x y c:Nat)(hx:x<1000000000)(hy:y<1000000000)(hc1:c≤1)(h:y+c≤x)(w:World)(hc:Car w g c) :
 Calls Tryz.prog 316 #[.pointer (some ⟨g,0,none⟩),.int .u64 (x:Int),.int .u64 (y:Int)] w fun e w'=>e=.returned (.int .u64 ((x-(y+c):Nat):Int))∧w.setCell ⟨g,0,none⟩ (.int .u64 ((0:Nat):Int))=w':=by
 have hcell:=cell_of_one hc;have hfree:=free_of_one hc;clear hc;go_enter func316,ntmps316
 go_wp2;go_ret
 exact⟨dM (by omega),rfl⟩
theorem z0O (g x y c:Nat)(hx:x<1000000000)(hy:y<1000000000)(hc1:c≤1)(h:x<y+c)(w:World)(hc:Car w g c) :
 Calls Tryz.prog 316 #[.pointer (some ⟨g,0,none⟩),.int .u64 (x:Int),.int .u64 (y:Int)] w fun e w'=>e=.returned (.int .u64 ((x+1000000000-(y+c):Nat):Int))∧w.setCell ⟨g,0,none⟩ (.int .u64 ((1:Nat):Int))=w':=by
 have hcell:=cell_of_one hc;have hfree:=free_of_one hc;clear hc;go_enter func316,ntmps316
 go_wp2;go_ret
 exact⟨dM (by omega),rfl⟩
structure StepOk (Inv:List Nat→List Nat→List Nat→Nat→Nat→Prop) (f g:Nat) (xs ys:List Nat):Prop where
 step:∀ (i:Nat) (os:List Nat) (c:Nat) (w:World),i<xs.length→Inv xs ys os i c→Car w g c →
  Calls Tryz.prog f #[.pointer (some ⟨g,0,none⟩),.int .u64 ((xs.getD i 0:Nat):Int),.int .u64 ((ys.getD i 0:Nat):Int)] w fun e w' =>
   ∃ r c':Nat,e=.returned (.int .u64 (r:Int))∧Inv xs ys (os++[r]) (i+1) c'∧w.setCell ⟨g,0,none⟩ (.int .u64 (c':Int))=w'
theorem getD_lt {xs:List Nat}(hx:∀ x∈xs,x<BB)(i:Nat):xs.getD i 0<BB:=by
 by_cases h:i<xs.length
 · exact hx _ (aV h)
 · have:xs.getD i 0=0:=by simp[List.getD,List.getElem?_eq_none (show xs.length≤i by omega)]
   rw[this];exact bE
theorem z0v (g:Nat)(xs ys:List Nat)(hx:∀ x∈xs,x<BB)(hy:∀ y∈ys,y<BB):StepOk dA 317 g xs ys:=⟨by
 intro i os c w hi hinv hc;have hB:=aD;have h1:=getD_lt hx i;have h2:=getD_lt hy i;by_cases hs:xs.getD i 0+ys.getD i 0+c<BB
 · exact(yI g _ _ c (by omega) (by omega) (by omega) w hc).mono fun e w' ⟨he,hw⟩=>⟨_,0,he,hinv.small hs,hw⟩
 · exact(z2v g _ _ c (by omega) (by omega) hinv.2.2.1 (by omega) w hc).mono fun e w' ⟨he,hw⟩=>⟨_,1,he,by rw[← hB];exact hinv.big h1 h2 (by omega),hw⟩⟩
theorem xN (g:Nat)(xs ys:List Nat)(hx:∀ x∈xs,x<BB)(hy:∀ y∈ys,y<BB):StepOk eQ 316 g xs ys:=⟨by
 intro i os c w hi hinv hc;have hB:=aD;have h1:=getD_lt hx i;have h2:=getD_lt hy i;by_cases hs:ys.getD i 0+c≤xs.getD i 0
 · exact(vI g _ _ c (by omega) (by omega) hinv.2.2.1 hs w hc).mono fun e w' ⟨he,hw⟩=>⟨_,0,he,hinv.small h1 hs,hw⟩
 · exact(z0O g _ _ c (by omega) (by omega) hinv.2.2.1 (by omega) w hc).mono fun e w' ⟨he,hw⟩=>⟨_,1,he,by rw[← hB];exact hinv.big h2 (by omega),hw⟩⟩
theorem gL (n:Nat):madeCells #[Value.int .u64 0] n=(cls .u64 (List.replicate n 0)).toArray:=by
 have:=dR n;rw[← this]
theorem df {n i:Nat}(h:i<n):List.replicate (n+1-i) 0=(0:Nat) :: List.replicate (n+1-(i+1)) 0:=by
 rw[show n+1-i=(n+1-(i+1))+1 by omega,List.replicate_succ]
theorem oN (Inv:List Nat→List Nat→List Nat→Nat→Nat→Prop)(g:Nat)(b1 o1 c1:Nat)(b2 o2 c2:Nat)(xs ys:List Nat)(hl:xs.length≤100000)(w:World)
 (hstep:StepOk Inv 317 g xs ys) (h0:Inv xs ys [] 0 0) (hlen:∀ os i c,Inv xs ys os i c→os.length=i)
 (hcar:Car w g 0) (hb1:b1<w.heap.size) (hg1:b1≠g)
 (hcx:∀ i,i<xs.length→w.cell? ⟨b1,o1+i,none⟩=some (.int .u64 ((xs.getD i 0:Nat):Int))) (hb2:b2<w.heap.size) (hg2:b2≠g)
 (hcy:∀ i,i<ys.length→w.cell? ⟨b2,o2+i,none⟩=some (.int .u64 ((ys.getD i 0:Nat):Int))) :
 Calls Tryz.prog 315 #[.slice (some ⟨b1,o1,none⟩) xs.length c1,.slice (some ⟨b2,o2,none⟩) ys.length c2,.func (.func 317) #[.pointer (some ⟨g,0,none⟩)] #[]] w fun e w' =>
  e=.returned (.slice (some ⟨w.heap.size,0,none⟩) xs.length (xs.length+1))∧∃ (os:List Nat) (c:Nat),Inv xs ys os xs.length c∧Blk w' w.heap.size (os++[0])∧Car w' g c∧w.grownBy w' (some g):=by
 obtain⟨i0,hi,hz0,hz1,hz2⟩:=info_parts Tryz.info133;have hgs:=hcar.lt;have hgo:g≠w.heap.size:=by omega
 have hmk:∀ W,(Instr.makeSlice 210 (.int .i64 (xs.length:Int)) (.int .i64 ((xs.length:Int)+1))).run Tryz.prog W=.ok (.slice (some ⟨W.heap.size,0,none⟩) xs.length (xs.length+1)) (W.alloc (.cells (madeCells #[.int .u64 0] (xs.length+1)) 133)):=fun W=>by
  have h:=run_make (P:=Tryz.prog) W 210 133 i0 (.int .u64 0) underlying210 hi hz0 .i64 .i64 (xs.length:Int) ((xs.length:Int)+1) (by omega) (by omega) (by rw[hz2];omega) (by omega);rw[h,hz1,show((xs.length:Int)+1).toNat=xs.length+1 by omega,Nat.mul_one,Int.toNat_natCast];rfl
 have u6:=hid (Blk.alloc (w:=w) (List.replicate (xs.length+1) 0) _ (gL _));have HC0:=hid (show Car (w.alloc (.cells (madeCells #[.int .u64 0] (xs.length+1)) 133)) g 0 from by unfold Car;rw[Below.heap_alloc _ _ _ hgs];exact hcar);obtain ⟨HSTEP,HCX,HL,H0,HCY⟩:=cB hstep hcx hlen h0 hcy;clear hstep hcar hcx hlen h0 hcy;go_enter func315,ntmps315
 go_wp2;go_loopw [19] (fun ii wr=>∃ (i c:Nat) (os:List Nat),i≤xs.length∧ii=.int .i64 i∧Hid (Inv xs ys os i c )∧Hid (Blk wr w.heap.size (os++List.replicate (xs.length+1-i) 0))∧Hid (Car wr g c)∧Hid (w.grownBy wr (some g))) (fun ii _=>xs.length-(intOf ii).toNat)
 case atStart=>exact⟨0,0,[],Nat.zero_le _,rfl,H0,u6,HC0,World.grownBy_alloc _ _ _⟩
 case round =>
  obtain⟨i,c,os,hi',rfl,hI,hB,hC,hG⟩:=hrel;clear hmk u6 HC0 H0;by_cases hlt:i<xs.length
  · have hcx':=(show wr.cell? ⟨b1,o1+i,none⟩=w.cell? ⟨b1,o1+i,none⟩from World.cell?_of_block (hG.o.block b1 hb1 (fun e=>hg1 (Option.some.inj e)))).trans (HCX.o i hlt)
    have HST:=hid (HSTEP.o.step i os c wr hlt hI.o hC.o);have hI:Hid (Inv xs ys os i c∧os.length=i):=hid ⟨hI.o,HL.o _ _ _ hI.o⟩;have hI:=hid (⟨hI.o.2,hI.o.1⟩:os.length=i∧Inv xs ys os i c);by_cases hy:i<ys.length
    · have hcy':=(show wr.cell? ⟨b2,o2+i,none⟩=w.cell? ⟨b2,o2+i,none⟩from World.cell?_of_block (hG.o.block b2 hb2 (fun e=>hg2 (Option.some.inj e)))).trans (HCY.o i hy)
      generalize xs.getD i 0=x at *;generalize ys.getD i 0=y at *;go_wp2_with fail
      refine HST.o.mono ?_;rintro e w1 ⟨r,c',rfl,hinv',rfl⟩;have hb1':=(hB.o.other hgo (k:=g) 0 (.int .u64 (c':Int)));rw[df hlt]at hb1';have hl1:=hI.o.1;have hcell1:=hb1'.cell (i:=os.length) (by simp);have hfree1:=hb1'.free os.length;have hset1:=hb1'.set os.length r;have e1:(os++0 :: List.replicate (xs.length+1-(i+1)) 0).getD os.length 0=0:=by simp[List.getD]
      have e2:(os++0 :: List.replicate (xs.length+1-(i+1)) 0).set os.length r=(os++[r])++List.replicate (xs.length+1-(i+1)) 0:=by simp
      rw[e1]at hcell1;rw[e2]at hset1;rw[hl1]at hcell1 hfree1 hset1;obtain ⟨HI',HS'⟩:=aC hinv' hset1;have HC':=hid ((hC.o.set c').other (show w.heap.size≠g by omega) i (.int .u64 (r:Int)));have HG':=hid (iW (Lib.grownBy_setB hG.o 0 (.int .u64 (c':Int))) (k:=w.heap.size) (Nat.le_refl _) i (.int .u64 (r:Int)));clear hinv' hb1' hl1 hset1 e1 e2;go_wp2;go_roundw
      case rel=>exact⟨i+1,c',os++[r],by omega,by go_num,HI',HS',HC',HG'⟩
      case measure=>simp[intOf];omega
    · have hyz:ys.getD i 0=0:=by simp[List.getD,List.getElem?_eq_none (show ys.length≤i by omega)]
      rw[hyz]at HST;clear hyz;generalize xs.getD i 0=x at *;go_wp2_with fail
      refine HST.o.mono ?_;rintro e w1 ⟨r,c',rfl,hinv',rfl⟩;have hb1':=(hB.o.other hgo (k:=g) 0 (.int .u64 (c':Int)));rw[df hlt]at hb1';have hl1:=hI.o.1;have hcell1:=hb1'.cell (i:=os.length) (by simp);have hfree1:=hb1'.free os.length;have hset1:=hb1'.set os.length r;have e1:(os++0 :: List.replicate (xs.length+1-(i+1)) 0).getD os.length 0=0:=by simp[List.getD]
      have e2:(os++0 :: List.replicate (xs.length+1-(i+1)) 0).set os.length r=(os++[r])++List.replicate (xs.length+1-(i+1)) 0:=by simp
      rw[e1]at hcell1;rw[e2]at hset1;rw[hl1]at hcell1 hfree1 hset1;obtain ⟨HI',HS'⟩:=aC hinv' hset1;have HC':=hid ((hC.o.set c').other (show w.heap.size≠g by omega) i (.int .u64 (r:Int)));have HG':=hid (iW (Lib.grownBy_setB hG.o 0 (.int .u64 (c':Int))) (k:=w.heap.size) (Nat.le_refl _) i (.int .u64 (r:Int)));clear hinv' hb1' hl1 hset1 e1 e2;go_wp2;go_roundw
      case rel=>exact⟨i+1,c',os++[r],by omega,by go_num,HI',HS',HC',HG'⟩
      case measure=>simp[intOf];omega
  · have hi2:i=xs.length:=by omega
    have hB':=hB.o;have hI':=hI.o;rw[hi2,show xs.length+1-xs.length=1 by omega]at hB';rw[hi2]at hI';obtain ⟨HB',HI'⟩:=aC hB' hI';clear hB' hI' hi2;go_wp2;go_ret
    exact⟨rfl,os,c,HI'.o,HB'.o,hC.o,hG.o⟩
theorem rP (Inv:List Nat→List Nat→List Nat→Nat→Nat→Prop)(g:Nat)(b1 o1 c1:Nat)(a2:Option Addr)(c2:Nat)(xs ys:List Nat)(hl:xs.length≤100000)(w:World)
 (hstep:StepOk Inv 317 g xs ys) (h0:Inv xs ys [] 0 0) (hlen:∀ os i c,Inv xs ys os i c→os.length=i)
 (hcar:Car w g 0) (hb1:b1<w.heap.size) (hg1:b1≠g)
 (hcx:∀ i,i<xs.length→w.cell? ⟨b1,o1+i,none⟩=some (.int .u64 ((xs.getD i 0:Nat):Int))) (hy0:ys.length≤0) :
 Calls Tryz.prog 315 #[.slice (some ⟨b1,o1,none⟩) xs.length c1,.slice a2 ys.length c2,.func (.func 317) #[.pointer (some ⟨g,0,none⟩)] #[]] w fun e w' =>
  e=.returned (.slice (some ⟨w.heap.size,0,none⟩) xs.length (xs.length+1))∧∃ (os:List Nat) (c:Nat),Inv xs ys os xs.length c∧Blk w' w.heap.size (os++[0])∧Car w' g c∧w.grownBy w' (some g):=by
 obtain⟨i0,hi,hz0,hz1,hz2⟩:=info_parts Tryz.info133;have hgs:=hcar.lt;have hgo:g≠w.heap.size:=by omega
 have hmk:∀ W,(Instr.makeSlice 210 (.int .i64 (xs.length:Int)) (.int .i64 ((xs.length:Int)+1))).run Tryz.prog W=.ok (.slice (some ⟨W.heap.size,0,none⟩) xs.length (xs.length+1)) (W.alloc (.cells (madeCells #[.int .u64 0] (xs.length+1)) 133)):=fun W=>by
  have h:=run_make (P:=Tryz.prog) W 210 133 i0 (.int .u64 0) underlying210 hi hz0 .i64 .i64 (xs.length:Int) ((xs.length:Int)+1) (by omega) (by omega) (by rw[hz2];omega) (by omega);rw[h,hz1,show((xs.length:Int)+1).toNat=xs.length+1 by omega,Nat.mul_one,Int.toNat_natCast];rfl
 have u6:=hid (Blk.alloc (w:=w) (List.replicate (xs.length+1) 0) _ (gL _));have HC0:=hid (show Car (w.alloc (.cells (madeCells #[.int .u64 0] (xs.length+1)) 133)) g 0 from by unfold Car;rw[Below.heap_alloc _ _ _ hgs];exact hcar);obtain ⟨HSTEP,HCX,HL,H0⟩:=aP hstep hcx hlen h0;clear hstep hcar hcx hlen h0;go_enter func315,ntmps315
 go_wp2;go_loopw [19] (fun ii wr=>∃ (i c:Nat) (os:List Nat),i≤xs.length∧ii=.int .i64 i∧Hid (Inv xs ys os i c )∧Hid (Blk wr w.heap.size (os++List.replicate (xs.length+1-i) 0))∧Hid (Car wr g c)∧Hid (w.grownBy wr (some g))) (fun ii _=>xs.length-(intOf ii).toNat)
 case atStart=>exact⟨0,0,[],Nat.zero_le _,rfl,H0,u6,HC0,World.grownBy_alloc _ _ _⟩
 case round =>
  obtain⟨i,c,os,hi',rfl,hI,hB,hC,hG⟩:=hrel;clear hmk u6 HC0 H0;by_cases hlt:i<xs.length
  · have hcx':=(show wr.cell? ⟨b1,o1+i,none⟩=w.cell? ⟨b1,o1+i,none⟩from World.cell?_of_block (hG.o.block b1 hb1 (fun e=>hg1 (Option.some.inj e)))).trans (HCX.o i hlt)
    have HST:=hid (HSTEP.o.step i os c wr hlt hI.o hC.o);have hI:Hid (Inv xs ys os i c∧os.length=i):=hid ⟨hI.o,HL.o _ _ _ hI.o⟩;have hI:=hid (⟨hI.o.2,hI.o.1⟩:os.length=i∧Inv xs ys os i c);have hy:¬ i<ys.length:=by omega
    have hyz:ys.getD i 0=0:=by simp[List.getD,List.getElem?_eq_none (show ys.length≤i by omega)]
    rw[hyz]at HST;clear hyz;generalize xs.getD i 0=x at *;go_wp2_with fail
    refine HST.o.mono ?_;rintro e w1 ⟨r,c',rfl,hinv',rfl⟩;have hb1':=(hB.o.other hgo (k:=g) 0 (.int .u64 (c':Int)));rw[df hlt]at hb1';have hl1:=hI.o.1;have hcell1:=hb1'.cell (i:=os.length) (by simp);have hfree1:=hb1'.free os.length;have hset1:=hb1'.set os.length r;have e1:(os++0 :: List.replicate (xs.length+1-(i+1)) 0).getD os.length 0=0:=by simp[List.getD]
    have e2:(os++0 :: List.replicate (xs.length+1-(i+1)) 0).set os.length r=(os++[r])++List.replicate (xs.length+1-(i+1)) 0:=by simp
    rw[e1]at hcell1;rw[e2]at hset1;rw[hl1]at hcell1 hfree1 hset1;obtain ⟨HI',HS'⟩:=aC hinv' hset1;have HC':=hid ((hC.o.set c').other (show w.heap.size≠g by omega) i (.int .u64 (r:Int)));have HG':=hid (iW (Lib.grownBy_setB hG.o 0 (.int .u64 (c':Int))) (k:=w.heap.size) (Nat.le_refl _) i (.int .u64 (r:Int)));clear hinv' hb1' hl1 hset1 e1 e2;go_wp2;go_roundw
    case rel=>exact⟨i+1,c',os++[r],by omega,by go_num,HI',HS',HC',HG'⟩
    case measure=>simp[intOf];omega
  · have hi2:i=xs.length:=by omega
    have hB':=hB.o;have hI':=hI.o;rw[hi2,show xs.length+1-xs.length=1 by omega]at hB';rw[hi2]at hI';obtain ⟨HB',HI'⟩:=aC hB' hI';clear hB' hI' hi2;go_wp2;go_ret
    exact⟨rfl,os,c,HI'.o,HB'.o,hC.o,hG.o⟩
theorem nQ (Inv:List Nat→List Nat→List Nat→Nat→Nat→Prop)(g:Nat)(b1 o1 c1:Nat)(b2 o2 c2:Nat)(xs ys:List Nat)(hl:xs.length≤100000)(w:World)
 (hstep:StepOk Inv 316 g xs ys) (h0:Inv xs ys [] 0 0) (hlen:∀ os i c,Inv xs ys os i c→os.length=i)
 (hcar:Car w g 0) (hb1:b1<w.heap.size) (hg1:b1≠g)
 (hcx:∀ i,i<xs.length→w.cell? ⟨b1,o1+i,none⟩=some (.int .u64 ((xs.getD i 0:Nat):Int))) (hb2:b2<w.heap.size) (hg2:b2≠g)
 (hcy:∀ i,i<ys.length→w.cell? ⟨b2,o2+i,none⟩=some (.int .u64 ((ys.getD i 0:Nat):Int))) :
 Calls Tryz.prog 315 #[.slice (some ⟨b1,o1,none⟩) xs.length c1,.slice (some ⟨b2,o2,none⟩) ys.length c2,.func (.func 316) #[.pointer (some ⟨g,0,none⟩)] #[]] w fun e w' =>
  e=.returned (.slice (some ⟨w.heap.size,0,none⟩) xs.length (xs.length+1))∧∃ (os:List Nat) (c:Nat),Inv xs ys os xs.length c∧Blk w' w.heap.size (os++[0])∧Car w' g c∧w.grownBy w' (some g):=by
 obtain⟨i0,hi,hz0,hz1,hz2⟩:=info_parts Tryz.info133;have hgs:=hcar.lt;have hgo:g≠w.heap.size:=by omega
 have hmk:∀ W,(Instr.makeSlice 210 (.int .i64 (xs.length:Int)) (.int .i64 ((xs.length:Int)+1))).run Tryz.prog W=.ok (.slice (some ⟨W.heap.size,0,none⟩) xs.length (xs.length+1)) (W.alloc (.cells (madeCells #[.int .u64 0] (xs.length+1)) 133)):=fun W=>by
  have h:=run_make (P:=Tryz.prog) W 210 133 i0 (.int .u64 0) underlying210 hi hz0 .i64 .i64 (xs.length:Int) ((xs.length:Int)+1) (by omega) (by omega) (by rw[hz2];omega) (by omega);rw[h,hz1,show((xs.length:Int)+1).toNat=xs.length+1 by omega,Nat.mul_one,Int.toNat_natCast];rfl
 have u6:=hid (Blk.alloc (w:=w) (List.replicate (xs.length+1) 0) _ (gL _));have HC0:=hid (show Car (w.alloc (.cells (madeCells #[.int .u64 0] (xs.length+1)) 133)) g 0 from by unfold Car;rw[Below.heap_alloc _ _ _ hgs];exact hcar);obtain ⟨HSTEP,HCX,HL,H0,HCY⟩:=cB hstep hcx hlen h0 hcy;clear hstep hcar hcx hlen h0 hcy;go_enter func315,ntmps315
 go_wp2;go_loopw [19] (fun ii wr=>∃ (i c:Nat) (os:List Nat),i≤xs.length∧ii=.int .i64 i∧Hid (Inv xs ys os i c )∧Hid (Blk wr w.heap.size (os++List.replicate (xs.length+1-i) 0))∧Hid (Car wr g c)∧Hid (w.grownBy wr (some g))) (fun ii _=>xs.length-(intOf ii).toNat)
 case atStart=>exact⟨0,0,[],Nat.zero_le _,rfl,H0,u6,HC0,World.grownBy_alloc _ _ _⟩
 case round =>
  obtain⟨i,c,os,hi',rfl,hI,hB,hC,hG⟩:=hrel;clear hmk u6 HC0 H0;by_cases hlt:i<xs.length
  · have hcx':=(show wr.cell? ⟨b1,o1+i,none⟩=w.cell? ⟨b1,o1+i,none⟩from World.cell?_of_block (hG.o.block b1 hb1 (fun e=>hg1 (Option.some.inj e)))).trans (HCX.o i hlt)
    have HST:=hid (HSTEP.o.step i os c wr hlt hI.o hC.o);have hI:Hid (Inv xs ys os i c∧os.length=i):=hid ⟨hI.o,HL.o _ _ _ hI.o⟩;have hI:=hid (⟨hI.o.2,hI.o.1⟩:os.length=i∧Inv xs ys os i c);by_cases hy:i<ys.length
    · have hcy':=(show wr.cell? ⟨b2,o2+i,none⟩=w.cell? ⟨b2,o2+i,none⟩from World.cell?_of_block (hG.o.block b2 hb2 (fun e=>hg2 (Option.some.inj e)))).trans (HCY.o i hy)
      generalize xs.getD i 0=x at *;generalize ys.getD i 0=y at *;go_wp2_with fail
      refine HST.o.mono ?_;rintro e w1 ⟨r,c',rfl,hinv',rfl⟩;have hb1':=(hB.o.other hgo (k:=g) 0 (.int .u64 (c':Int)));rw[df hlt]at hb1';have hl1:=hI.o.1;have hcell1:=hb1'.cell (i:=os.length) (by simp);have hfree1:=hb1'.free os.length;have hset1:=hb1'.set os.length r;have e1:(os++0 :: List.replicate (xs.length+1-(i+1)) 0).getD os.length 0=0:=by simp[List.getD]
      have e2:(os++0 :: List.replicate (xs.length+1-(i+1)) 0).set os.length r=(os++[r])++List.replicate (xs.length+1-(i+1)) 0:=by simp
      rw[e1]at hcell1;rw[e2]at hset1;rw[hl1]at hcell1 hfree1 hset1;obtain ⟨HI',HS'⟩:=aC hinv' hset1;have HC':=hid ((hC.o.set c').other (show w.heap.size≠g by omega) i (.int .u64 (r:Int)));have HG':=hid (iW (Lib.grownBy_setB hG.o 0 (.int .u64 (c':Int))) (k:=w.heap.size) (Nat.le_refl _) i (.int .u64 (r:Int)));clear hinv' hb1' hl1 hset1 e1 e2;go_wp2;go_roundw
      case rel=>exact⟨i+1,c',os++[r],by omega,by go_num,HI',HS',HC',HG'⟩
      case measure=>simp[intOf];omega
    · have hyz:ys.getD i 0=0:=by simp[List.getD,List.getElem?_eq_none (show ys.length≤i by omega)]
      rw[hyz]at HST;clear hyz;generalize xs.getD i 0=x at *;go_wp2_with fail
      refine HST.o.mono ?_;rintro e w1 ⟨r,c',rfl,hinv',rfl⟩;have hb1':=(hB.o.other hgo (k:=g) 0 (.int .u64 (c':Int)));rw[df hlt]at hb1';have hl1:=hI.o.1;have hcell1:=hb1'.cell (i:=os.length) (by simp);have hfree1:=hb1'.free os.length;have hset1:=hb1'.set os.length r;have e1:(os++0 :: List.replicate (xs.length+1-(i+1)) 0).getD os.length 0=0:=by simp[List.getD]
      have e2:(os++0 :: List.replicate (xs.length+1-(i+1)) 0).set os.length r=(os++[r])++List.replicate (xs.length+1-(i+1)) 0:=by simp
      rw[e1]at hcell1;rw[e2]at hset1;rw[hl1]at hcell1 hfree1 hset1;obtain ⟨HI',HS'⟩:=aC hinv' hset1;have HC':=hid ((hC.o.set c').other (show w.heap.size≠g by omega) i (.int .u64 (r:Int)));have HG':=hid (iW (Lib.grownBy_setB hG.o 0 (.int .u64 (c':Int))) (k:=w.heap.size) (Nat.le_refl _) i (.int .u64 (r:Int)));clear hinv' hb1' hl1 hset1 e1 e2;go_wp2;go_roundw
      case rel=>exact⟨i+1,c',os++[r],by omega,by go_num,HI',HS',HC',HG'⟩
      case measure=>simp[intOf];omega
  · have hi2:i=xs.length:=by omega
    have hB':=hB.o;have hI':=hI.o;rw[hi2,show xs.length+1-xs.length=1 by omega]at hB';rw[hi2]at hI';obtain ⟨HB',HI'⟩:=aC hB' hI';clear hB' hI' hi2;go_wp2;go_ret
    exact⟨rfl,os,c,HI'.o,HB'.o,hC.o,hG.o⟩
theorem oO (Inv:List Nat→List Nat→List Nat→Nat→Nat→Prop)(g:Nat)(b1 o1 c1:Nat)(a2:Option Addr)(c2:Nat)(xs ys:List Nat)(hl:xs.length≤100000)(w:World)
 (hstep:StepOk Inv 316 g xs ys) (h0:Inv xs ys [] 0 0) (hlen:∀ os i c,Inv xs ys os i c→os.length=i)
 (hcar:Car w g 0) (hb1:b1<w.heap.size) (hg1:b1≠g)
 (hcx:∀ i,i<xs.length→w.cell? ⟨b1,o1+i,none⟩=some (.int .u64 ((xs.getD i 0:Nat):Int))) (hy0:ys.length≤0) :
 Calls Tryz.prog 315 #[.slice (some ⟨b1,o1,none⟩) xs.length c1,.slice a2 ys.length c2,.func (.func 316) #[.pointer (some ⟨g,0,none⟩)] #[]] w fun e w' =>
  e=.returned (.slice (some ⟨w.heap.size,0,none⟩) xs.length (xs.length+1))∧∃ (os:List Nat) (c:Nat),Inv xs ys os xs.length c∧Blk w' w.heap.size (os++[0])∧Car w' g c∧w.grownBy w' (some g):=by
 obtain⟨i0,hi,hz0,hz1,hz2⟩:=info_parts Tryz.info133;have hgs:=hcar.lt;have hgo:g≠w.heap.size:=by omega
 have hmk:∀ W,(Instr.makeSlice 210 (.int .i64 (xs.length:Int)) (.int .i64 ((xs.length:Int)+1))).run Tryz.prog W=.ok (.slice (some ⟨W.heap.size,0,none⟩) xs.length (xs.length+1)) (W.alloc (.cells (madeCells #[.int .u64 0] (xs.length+1)) 133)):=fun W=>by
  have h:=run_make (P:=Tryz.prog) W 210 133 i0 (.int .u64 0) underlying210 hi hz0 .i64 .i64 (xs.length:Int) ((xs.length:Int)+1) (by omega) (by omega) (by rw[hz2];omega) (by omega);rw[h,hz1,show((xs.length:Int)+1).toNat=xs.length+1 by omega,Nat.mul_one,Int.toNat_natCast];rfl
 have u6:=hid (Blk.alloc (w:=w) (List.replicate (xs.length+1) 0) _ (gL _));have HC0:=hid (show Car (w.alloc (.cells (madeCells #[.int .u64 0] (xs.length+1)) 133)) g 0 from by unfold Car;rw[Below.heap_alloc _ _ _ hgs];exact hcar);obtain ⟨HSTEP,HCX,HL,H0⟩:=aP hstep hcx hlen h0;clear hstep hcar hcx hlen h0;go_enter func315,ntmps315
 go_wp2;go_loopw [19] (fun ii wr=>∃ (i c:Nat) (os:List Nat),i≤xs.length∧ii=.int .i64 i∧Hid (Inv xs ys os i c )∧Hid (Blk wr w.heap.size (os++List.replicate (xs.length+1-i) 0))∧Hid (Car wr g c)∧Hid (w.grownBy wr (some g))) (fun ii _=>xs.length-(intOf ii).toNat)
 case atStart=>exact⟨0,0,[],Nat.zero_le _,rfl,H0,u6,HC0,World.grownBy_alloc _ _ _⟩
 case round =>
  obtain⟨i,c,os,hi',rfl,hI,hB,hC,hG⟩:=hrel;clear hmk u6 HC0 H0;by_cases hlt:i<xs.length
  · have hcx':=(show wr.cell? ⟨b1,o1+i,none⟩=w.cell? ⟨b1,o1+i,none⟩from World.cell?_of_block (hG.o.block b1 hb1 (fun e=>hg1 (Option.some.inj e)))).trans (HCX.o i hlt)
    have HST:=hid (HSTEP.o.step i os c wr hlt hI.o hC.o);have hI:Hid (Inv xs ys os i c∧os.length=i):=hid ⟨hI.o,HL.o _ _ _ hI.o⟩;have hI:=hid (⟨hI.o.2,hI.o.1⟩:os.length=i∧Inv xs ys os i c);have hy:¬ i<ys.length:=by omega
    have hyz:ys.getD i 0=0:=by simp[List.getD,List.getElem?_eq_none (show ys.length≤i by omega)]
    rw[hyz]at HST;clear hyz;generalize xs.getD i 0=x at *;go_wp2_with fail
    refine HST.o.mono ?_;rintro e w1 ⟨r,c',rfl,hinv',rfl⟩;have hb1':=(hB.o.other hgo (k:=g) 0 (.int .u64 (c':Int)));rw[df hlt]at hb1';have hl1:=hI.o.1;have hcell1:=hb1'.cell (i:=os.length) (by simp);have hfree1:=hb1'.free os.length;have hset1:=hb1'.set os.length r;have e1:(os++0 :: List.replicate (xs.length+1-(i+1)) 0).getD os.length 0=0:=by simp[List.getD]
    have e2:(os++0 :: List.replicate (xs.length+1-(i+1)) 0).set os.length r=(os++[r])++List.replicate (xs.length+1-(i+1)) 0:=by simp
    rw[e1]at hcell1;rw[e2]at hset1;rw[hl1]at hcell1 hfree1 hset1;obtain ⟨HI',HS'⟩:=aC hinv' hset1;have HC':=hid ((hC.o.set c').other (show w.heap.size≠g by omega) i (.int .u64 (r:Int)));have HG':=hid (iW (Lib.grownBy_setB hG.o 0 (.int .u64 (c':Int))) (k:=w.heap.size) (Nat.le_refl _) i (.int .u64 (r:Int)));clear hinv' hb1' hl1 hset1 e1 e2;go_wp2;go_roundw
    case rel=>exact⟨i+1,c',os++[r],by omega,by go_num,HI',HS',HC',HG'⟩
    case measure=>simp[intOf];omega
  · have hi2:i=xs.length:=by omega
    have hB':=hB.o;have hI':=hI.o;rw[hi2,show xs.length+1-xs.length=1 by omega]at hB';rw[hi2]at hI';obtain ⟨HB',HI'⟩:=aC hB' hI';clear hB' hI' hi2;go_wp2;go_ret
    exact⟨rfl,os,c,HI'.o,HB'.o,hC.o,hG.o⟩
