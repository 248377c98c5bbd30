/- texts -/
import Derived.Test.YtoaeaiiabelhkaaGreatDoorMz2q
import Derived.Test.YtoaeaiiabelhkaaGreatDoorShelf
import Derived.WalkSpells
import Derived.WalkLawsBesides
import Derived.Lib.BufferOwn
open Go.Proofs.Tryz
set_option maxRecDepth 100000
set_option maxHeartbeats 20000000
open Go.Lib (hid)
namespace Go.Proofs.YtoaeaiiabelhkaaGreatDoor
open Go.RowKit Go.Gb
theorem dA {a b:Bool}(h:a=b):Ending.returned (.bool a)=.returned (.bool b):=by rw[h]
theorem aF (s:ByteArray):s.data.toList.length=s.size:=rfl
theorem fH (s:ByteArray)(k:Nat)(h:k<s.size):s.data.toList[k]'(by rw[aF];exact h)=s[k]:=rfl
theorem rD {s:ByteArray}(h:s.size=0):s.data.toList=[]:=List.length_eq_zero_iff.1 (by rw[aF];exact h)
theorem toList_data (s:ByteArray):s.toList=s.data.toList:=ByteArray.toList_eq s
def alld (s:ByteArray) (k:Nat):Prop:=(s.data.toList.take k).all isD=true
theorem lu (s:ByteArray):alld s 0:=by unfold alld;simp
theorem lw {s:ByteArray}{k:Nat}(h:alld s k)(hk:k<s.size)(h1:48≤(s[k].toNat:Int))(h2:(s[k].toNat:Int)≤57):alld s (k+1):=by
 unfold alld at *
 rw[List.take_succ_eq_append_getElem (by rw[aF];exact hk),List.all_append,h];simp only[List.all_cons,List.all_nil,Bool.and_true,Bool.true_and];rw[fw,fH s k hk];omega
theorem vv {s:ByteArray}(h0:0<s.size)(h:alld s s.size)(hc:s.size=1∨¬ (s[0].toNat:Int)=48):vld s.data.toList=true:=by
 unfold alld at h
 rw[List.take_of_length_le (by rw[aF];exact Nat.le_refl _)]at h;rw[gJ];refine⟨by intro h2;rw[← aF,h2]at h0;simp at h0,h,?_⟩;rcases hc with hc|hc
 · exact Or.inl (by rw[aF];exact hc)
 · right
   have e:s.data.toList.headD 0=s[0]:=by
    cases hl:s.data.toList with
    | nil=>rw[← aF,hl]at h0;simp at h0
    | cons c l=>have:=fH s 0 h0;simp only[hl,List.getElem_cons_zero]at this;simp[this]
   rw[e];omega
theorem qI {s:ByteArray}{k:Nat}(hk:k<s.size)(h:(s[k].toNat:Int)<48∨57<(s[k].toNat:Int)):vld s.data.toList=false:=by
 cases hv:vld s.data.toList with
 | false=>rfl
 | true =>
   obtain⟨_,h2,_⟩:=(gJ _).1 hv;have:=List.all_eq_true.1 h2 (s.data.toList[k]'(by rw[aF];exact hk)) (List.getElem_mem _);rw[fw,fH s k hk]at this;omega
theorem xC {s:ByteArray}(h0:1<s.size)(h:(s[0].toNat:Int)=48):vld s.data.toList=false:=by
 cases hv:vld s.data.toList with
 | false=>rfl
 | true =>
   obtain⟨_,_,h3⟩:=(gJ _).1 hv;rw[aF]at h3
   have e:s.data.toList.headD 0=s[0]:=by
    cases hl:s.data.toList with
    | nil=>rw[← aF,hl]at h0;simp at h0
    | cons c l=>have:=fH s 0 (by omega);simp only[hl,List.getElem_cons_zero]at this;simp[this]
   rw[e]at h3;omega
theorem uX (s:ByteArray)(w:World)(hs:s.size≤maxLen) :
 Calls Tryz.prog 148 #[.string s] w fun e w'=>e=.returned (.bool (vld s.data.toList))∧w=w':=by
 unfold maxLen at hs
 by_cases h0:s.size=0
 · have hE:s.toList=[]:=by rw[toList_data];exact rD h0
   go_enter func148,ntmps148
   go_wp2;go_ret
   exact⟨dA (by rw[rD h0];rfl),rfl⟩
 · have h0:0<s.size:=by omega
   have hE2:¬ s.toList=[]:=by rw[toList_data];intro h;rw[← aF,h]at h0;simp at h0
   have hE1:s.toList.isEmpty=false:=by simpa using hE2
   by_cases hc:(s[0].toNat:Int)=48∧1<s.size
   · obtain⟨hc1,hc2⟩:=hc
     have hb:((s[0].toNat:Int)==48)=true:=by simpa using hc1
     have hfin:=hid (xC hc2 hc1);clear hc1;go_enter func148,ntmps148
     go_wp2;go_ret
     exact⟨dA hfin.o.symm,rfl⟩
   · have hc':=hid (show s.size=1∨¬ (s[0].toNat:Int)=48 by omega)
     have hl:((s[0].toNat:Int)==48)=true∧s.size≤1∨((s[0].toNat:Int)==48)=false:=by
        by_cases hb:(s[0].toNat:Int)=48
        · exact Or.inl ⟨by simpa using hb,by omega⟩
        · exact Or.inr (by simpa using hb)
     clear hc;rcases hl with⟨hb,hl⟩|hb
     all_goals
        go_enter func148,ntmps148
        go_wp2;go_loop [18,3] (fun i _=>∃ k:Nat,k≤s.size∧i=.int .i64 k∧alld s k) (fun i _=>s.size-(intOf i).toNat)
        case atStart=>exact⟨0,Nat.zero_le _,rfl,lu s⟩
        case round =>
         obtain⟨k,hk,rfl,ha⟩:=hrel;go_wp2
         all_goals first
          | (go_round
             case rel=>exact⟨k+1,by omega,by go_num,lw ha (by assumption) (by omega) (by omega)⟩
             case measure=>simp[intOf];omega)
          | (have hlt:k<s.size:=by assumption
             go_ret
             exact⟨dA (qI hlt (by omega)).symm,rfl⟩)
          | (obtain rfl:k=s.size:=by omega
             go_ret
             exact⟨dA (vv h0 ha hc'.o).symm,rfl⟩)
theorem bT (s:ByteArray)(hv:vld s.data.toList=true)(hs:s.size≤maxLen)(w:World) :
 Calls Tryz.prog 148 #[.string s] w fun e w'=>e=.returned (.bool true)∧w=w' :=
 (uX s w hs).mono fun e w' ⟨h1,h2⟩=>⟨by rw[h1,hv],h2⟩
theorem yQ (s:ByteArray)(hv:vld s.data.toList=false)(hs:s.size≤maxLen)(w:World) :
 Calls Tryz.prog 148 #[.string s] w fun e w'=>e=.returned (.bool false)∧w=w' :=
 (uX s w hs).mono fun e w' ⟨h1,h2⟩=>⟨by rw[h1,hv],h2⟩
def cmpN (m n:Nat):Int:=if m<n then -1 else if n<m then 1 else 0
theorem fV {m n:Nat}(h:m<n):cmpN m n = -1:=by unfold cmpN;rw[if_pos h]
theorem iG {m n:Nat}(h:n<m):cmpN m n=1:=by unfold cmpN;rw[if_neg (by omega),if_pos h]
theorem rY (m:Nat):cmpN m m=0:=by unfold cmpN;rw[if_neg (by omega),if_neg (by omega)]
theorem lY {l m:List UInt8}(hl:l.length=m.length):∀ (p:List UInt8),(l.all isD)=true→(m.all isD)=true→Lib.compareBytes l m=cmpN (aI (p++l)) (aI (p++m)):=by
 induction l generalizing m with
 | nil =>
   intro p _ _;have:m=[]:=List.length_eq_zero_iff.1 (by simpa using hl.symm);subst this;rw[rY];rfl
 | cons a l ih =>
   intro p h1 h2
   cases m with
   | nil=>simp at hl
   | cons b m =>
     simp only[List.all_cons,Bool.and_eq_true]at h1 h2;have hlm:l.length=m.length:=by simpa using hl
     unfold Lib.compareBytes
     by_cases hab:a<b
     · rw[if_pos hab,fV (yD hlm h1.2 h1.1 h2.1 (UInt8.lt_iff_toNat_lt.1 hab))]
     · by_cases hba:b<a
       · rw[if_neg hab,if_pos hba,iG (yD hlm.symm h2.2 h2.1 h1.1 (UInt8.lt_iff_toNat_lt.1 hba))]
       · have e:a=b:=by
          apply UInt8.toNat_inj.1
          rw[UInt8.lt_iff_toNat_lt]at hab hba;omega
         subst e;rw[if_neg hab,if_neg hba,ih hlm (p++[a]) h1.2 h2.2];simp
theorem mR {l m:List UInt8}(h1:vld l=true)(h2:vld m=true)(hl:l.length=m.length):Lib.compareBytes l m=cmpN (aI l) (aI m):=by
 have:=lY hl [] ((gJ _).1 h1).2.1 ((gJ _).1 h2).2.1;simpa using this
theorem dK {k:IntKind}{a b:Int}(h:a=b):Ending.returned (.int k a)=.returned (.int k b):=by rw[h]
theorem gW (a b:ByteArray)(ha:vld a.data.toList=true)(hb:vld b.data.toList=true)(w:World) :
 Calls Tryz.prog 223 #[.string a,.string b] w fun e w'=>e=.returned (.int .i64 (cmpN (aI a.data.toList) (aI b.data.toList)))∧w=w':=by
 have hlt:=hid (fun h=>eO ha hb h);have hgt:=hid (fun h=>eO hb ha h);have heq:=hid (fun h=>mR ha hb h);clear ha hb;rcases Nat.lt_trichotomy a.size b.size with h|h|h
 · go_enter func223,ntmps223
   go_wp2_with fail
   go_ret
   exact⟨dK (fV (hlt.o h)).symm,rfl⟩
 · have h1:¬ a.size<b.size:=by omega
   have h2:¬ b.size<a.size:=by omega
   have H:=hid h;clear h;go_enter func223,ntmps223
   go_wp2_with (go_at_call 240;refine(Tryz.strings_Compare _ _ _).mono ?_;rintro e w' ⟨rfl,rfl⟩)
   go_ret
   exact⟨dK (heq.o H.o),rfl⟩
 · have h1:¬ a.size<b.size:=by omega
   go_enter func223,ntmps223
   go_wp2_with fail
   go_ret
   exact⟨dK (iG (hgt.o h)).symm,rfl⟩
theorem xw (a b:ByteArray)(ha:vld a.data.toList=true)(hb:vld b.data.toList=true)(hsa:a.size≤maxLen)(hsb:b.size≤maxLen)(w:World) :
 Calls Tryz.prog 190 #[.string a,.string b] w fun e w'=>e=.returned (.tuple #[.int .i64 (cmpN (aI a.data.toList) (aI b.data.toList)),.int .i64 0])∧w=w':=by
 have HA:=hid ha;have HB:=hid hb;clear ha hb;go_enter func190,ntmps190
 go_wp2_with fail
 refine(bT a HA.o hsa _).mono ?_;rintro e w' ⟨rfl,rfl⟩;go_wp2_with fail
 refine(bT b HB.o hsb _).mono ?_;rintro e w' ⟨rfl,rfl⟩;go_wp2_with fail
 refine(gW a b HA.o HB.o _).mono ?_;rintro e w' ⟨rfl,rfl⟩;go_wp2;go_ret2
 exact⟨rfl,rfl⟩
end Go.Proofs.YtoaeaiiabelhkaaGreatDoor
open Go.Lib (hid)
namespace Go.Proofs.YtoaeaiiabelhkaaGreatDoor
open Go.RowKit Go.Gb Go.Lib Go.Sort
def Tb (w:World):Prop:=Lib.TabIs Tryz.prog w "internal/strconv.uint64pow10" .u64 Lib.pow10Tab
theorem Tb.on {w w':World}(h:Tb w)(hb:Below w.heap.size w w'):Tb w':=Lib.tabBelow_of_tabIs h w' hb
theorem z4Z {a b:List UInt8}(h:a=b):Ending.returned (.string ⟨a.toArray⟩)=.returned (.string ⟨b.toArray⟩):=by rw[h]
theorem z5q (u:Nat)(hu64:u<18446744073709551616)(w:World)(htab:Tb w) :
 CR 252 #[.int .u64 u,.int .i64 10] w (.string ⟨(Lib.decDigits u).toArray⟩):=by
 by_cases hs:u<100
 · clear hu64
   go_enter func252,ntmps252
   go_wp2_with (go_at_call 185;refine(Tryz.internal_strconv_small u hs _).mono ?_;rintro e w' ⟨rfl,rfl⟩)
   go_ret
   exact⟨rfl,Below.refl _ _⟩
 · have hu1:1≤u:=by omega
   have hnd20:Lib.nDigits u≤20:=by have:=Lib.numDigits_eq u hu1 hu64;split at this<;>omega
   have hal:Tryz.prog.arrayLen 199=24:=by kernel_rfl
   have hsl1:∀ W,(Instr.sliceAt 199 (.pointer (some ⟨w.heap.size,0,none⟩)) none (some (.int .i64 (Lib.nDigits u:Int))) none).run Tryz.prog W=.ok (.slice (some ⟨w.heap.size,0,none⟩) (Lib.nDigits u) 24) W:=fun W=>by
    rw[run_sliceAt_array_h W 199 ⟨w.heap.size,0,none⟩ (by simp[Program.arrayLen,Program.elem,underlying199]) .i64 (Lib.nDigits u:Int) (by omega) (by rw[hal];omega)];go_simp
   have hH0:=Lib.holds_zero0 w 199 (Lib.nDigits u) (by omega);have hfmt:=Tryz.internal_strconv_formatBase10 w.heap.size 0 24 u (Array.replicate (Lib.nDigits u) 0) (w.alloc (.cells Lib.zeros24 199)) hH0 (by rw[Array.size_replicate];exact Lib.lt_pow_nDigits u) hu64 (by rw[Array.size_replicate];omega);rw[Array.size_replicate]at hfmt;obtain ⟨HH0,HU,HT⟩:=ak hH0 hu64 htab;clear hH0 hal hu64 htab;go_enter func252,ntmps252
   go_wp2_with (go_at_call 186;refine(Tryz.internal_strconv_numDigits u hu1 HU.o _ (Lib.tabIs_alloc HT.o _)).mono ?_;rintro e w' ⟨rfl,rfl⟩)
   refine hfmt.mono ?_;rintro e w' ⟨rfl,k,v',dk,rfl,hF⟩
   have hcv:(convert 152 9 (.slice (some ⟨w.heap.size,0,none⟩) (Lib.nDigits u) 24)).run Tryz.prog ((putRow (fun(b:UInt8)=>Value.int .u8 (b.toNat:Int)) (w.alloc (.cells Lib.zeros24 199)) w.heap.size 0 dk).drewN k)=.ok (.string ⟨(Lib.decDigits u).toArray⟩) ((putRow (fun(b:UInt8)=>Value.int .u8 (b.toNat:Int)) (w.alloc (.cells Lib.zeros24 199)) w.heap.size 0 dk).drewN k):=by
    have h:=run_convert_bytes_back (P:=Tryz.prog) ((putRow (fun(b:UInt8)=>Value.int .u8 (b.toNat:Int)) (w.alloc (.cells Lib.zeros24 199)) w.heap.size 0 dk).drewN k) 152 9 5 ⟨w.heap.size,0,none⟩ 24 (Lib.decDigits u) underlying152 underlying5 underlying9 (fun j hj=>by
        rw[Lib.row_is_numeral hF j hj,Lib.add_plain,World.cell?_drewN]
        exact cell?_putRow (fun(b:UInt8)=>Value.int .u8 (b.toNat:Int)) _ w.heap.size 0 _ dk HH0.o (by rw[hF.size,Array.size_replicate]) j (by rw[hF.size];rw[Lib.decDigits_length]at hj;exact hj))
    rw[Lib.decDigits_length]at h;exact h
   have hb:Below w.heap.size w ((putRow (fun(b:UInt8)=>Value.int .u8 (b.toNat:Int)) (w.alloc (.cells Lib.zeros24 199)) w.heap.size 0 dk).drewN k):=by
    obtain⟨os,eo⟩:=Lib.fin_at w (.cells Lib.zeros24 199) dk k 0;rw[eo];exact Lib.below_grow _ w (Nat.le_refl _) k os
   go_wp2;go_ret
   exact⟨rfl,hb⟩
theorem pz (u:Nat)(hu64:u<18446744073709551616)(w:World)(htab:Tb w) :
 CR 241 #[.int .u64 u,.int .i64 10] w (.string ⟨(Lib.decDigits u).toArray⟩):=by
 have HU:=hid hu64;clear hu64;go_enter func241,ntmps241
 go_wp2_with fail
 refine(z5q u HU.o _ htab).mono ?_;rintro e w' ⟨rfl,hb⟩;go_wp2;go_ret
 exact⟨rfl,hb⟩
theorem nD (u:Nat)(hu64:u<18446744073709551616)(w:World)(htab:Tb w) :
 CR 224 #[.int .u64 u] w (.string ⟨(Lib.decDigits u).toArray⟩):=by
 have HU:=hid hu64;clear hu64;go_enter func224,ntmps224
 go_wp2_with fail
 refine(pz u HU.o _ htab).mono ?_;rintro e w' ⟨rfl,hb⟩;go_wp2;go_ret
 exact⟨rfl,hb⟩
theorem u7 (l:List UInt8):∀ acc:Nat,l.all isD=true→(acc+1)*10^l.length≤10000000000000000000→Lib.parseUintM 18446744073709551615 acc l=.ok (l.foldl (fun n c=>n*10+(c.toNat-48)) acc):=by
 induction l with
 | nil=>intro acc _ _;rfl
 | cons c l ih =>
   intro acc h hb;simp only[List.all_cons,Bool.and_eq_true]at h;have hc:=(fw c).1 h.1;have hp:1≤10^l.length:=Nat.one_le_pow _ _ (by decide);rw[List.length_cons,Nat.pow_succ,Nat.mul_comm (10^l.length),← Nat.mul_assoc]at hb;have h1:(acc+1)*10*1≤(acc+1)*10*10^l.length:=Nat.mul_le_mul_left _ hp;have h2:(acc*10+(c.toNat-48)+1)*10^l.length≤(acc+1)*10*10^l.length:=Nat.mul_le_mul_right _ (by omega);rw[Lib.parseUintM,if_pos hc,if_neg (by omega),if_neg (by omega),ih _ h.2 (by omega)];rfl
theorem nN (l:List UInt8)(h:vld l=true)(hl:l.length≤19):Lib.parseUintB 64 l=.ok (aI l):=by
 obtain⟨h1,h2,_⟩:=(gJ l).1 h;unfold Lib.parseUintB
 rw[if_neg h1];have hp:10^l.length≤10^19:=Nat.pow_le_pow_right (by decide) hl;exact u7 l 0 h2 (by omega)
theorem ig (s:ByteArray)(hv:vld s.data.toList=true)(hl:s.size≤19)(w:World) :
 CR 225 #[.string s] w (.int .u64 (aI s.data.toList:Nat)):=by
 have HP:=hid (nN s.data.toList hv (by rw[aF];exact hl));clear hv;have HM:=hid (show s.size≤9223372036854775806 by omega);go_enter func225,ntmps225
 go_wp2_with fail
 refine(Tryz.strconv_ParseUint_10_at64_ok s HM.o _ HP.o _).mono ?_;rintro e w' ⟨rfl,hw⟩
 have hb:Below w.heap.size w w':=by
  rcases hw with rfl|rfl
  · exact Below.refl _ _
  · exact Lib.bytesWorld_below w _ s
 clear hw;go_wp2;go_ret
 exact⟨rfl,hb⟩
theorem pE (B n u:Nat)(hu64:u<18446744073709551616)(sv:Value)(xs:List Value)(w:World)(hown:w.ownsRow B 5 1 sv n xs)(hBw:B≤w.heap.size)(hlim:n≤1000000)(htab:Tb w) :
 Calls Tryz.prog 171 #[sv,.int .u64 u,.int .i64 10] w fun e w'=>∃ v',e=.returned v'∧w'.ownsRow B 5 1 v' (n+(Lib.decDigits u).length) (xs++Lib.byteCells (Lib.decDigits u))∧Below B w w':=by
 have hc:Calls Tryz.prog 200 #[sv,.int .u64 u,.int .i64 10] w fun e w'=>∃ v',e=.returned v'∧w'.ownsRow B 5 1 v' (n+(Lib.decDigits u).length) (xs++Lib.byteCells (Lib.decDigits u))∧Below B w w':=by
  by_cases hs:u<100
  · exact(Tryz.internal_strconv_AppendUint_10_small B n u hs sv xs w hown hBw (by omega)).mono fun e w' ⟨v',h1,h2,h3,_⟩=>⟨v',h1,h2,h3⟩
  · exact(Tryz.internal_strconv_AppendUint_10_big B n u (by omega) hu64 sv xs w hown hBw (by omega) htab).mono fun e w' ⟨v',h1,h2,h3,_⟩=>⟨v',h1,h2,h3⟩
 clear hu64 hown htab;go_enter func171,ntmps171
 go_wp2_with fail
 refine hc.mono ?_;rintro e w' ⟨v',rfl,hown',hb⟩;go_wp2;go_ret
 exact⟨v',rfl,hown',hb⟩
end Go.Proofs.YtoaeaiiabelhkaaGreatDoor
open Go.Lib (hid)
namespace Go.Proofs.YtoaeaiiabelhkaaGreatDoor
open Go.RowKit Go.Gb
theorem Tryz.info112:(Tryz.prog.info? 112).map (fun i=>(i.zero,i.size,i.bytes))=some (some (.int .u64 0),1,8):=by kernel_rfl
theorem kK {a:Option Addr}{n m c:Nat}(h:n=m):Ending.returned (.slice a n c)=.returned (.slice a m c):=by rw[h]
theorem oW {s:ByteArray}{k:Nat}(hk:k<s.size)(h:s.data.toList.all isD=true) :
 aI (s.data.toList.take (k+1))=aI (s.data.toList.take k)*10+(s[k].toNat-48)∧48≤s[k].toNat∧s[k].toNat≤57:=by
 have h1:=List.all_eq_true.1 h (s.data.toList[k]'(by rw[aF];exact hk)) (List.getElem_mem _);rw[fw,fH s k hk]at h1;rw[List.take_succ_eq_append_getElem (by rw[aF];exact hk),kZ,fH s k hk];exact⟨rfl,h1⟩
theorem uE {s:ByteArray}(h:s.data.toList.all isD=true){k:Nat}(hk:k≤8):aI (s.data.toList.take k)<100000000:=by
 have h1:=gT (s.data.toList.take k) (by
  rw[List.all_eq_true]at h ⊢
  exact fun c hc=>h c (List.mem_of_mem_take hc))
 have h2:10^(s.data.toList.take k).length≤10^8:=Nat.pow_le_pow_right (by decide) (by rw[List.length_take];omega);omega
theorem z0l (s:ByteArray)(h:s.data.toList.all isD=true)(hl:s.size≤9)(w:World) :
 Calls Tryz.prog 208 #[.string s] w fun e w'=>e=.returned (.int .u64 ((aI s.data.toList:Nat):Int))∧w=w':=by
 have H:=hid h;clear h;go_enter func208,ntmps208
 go_wp2;go_loop [3,7,4] (fun n i _=>∃ (k m:Nat),k≤s.size∧i=.int .i64 k∧n=.int .u64 (m:Int)∧Hid (m=aI (s.data.toList.take k))) (fun _ i _=>s.size-(intOf i).toNat)
 case atStart=>exact⟨0,0,Nat.zero_le _,rfl,rfl,rfl⟩
 case round =>
  obtain⟨k,m,hk,rfl,rfl,hm⟩:=hrel;by_cases hlt:k<s.size
  · obtain⟨h1,h2,h3⟩:=oW hlt H.o
    have h4:m<100000000:=by rw[hm.o];exact uE H.o (by omega)
    have H1:=hid h1;clear h1;go_wp2;go_round
    case rel=>exact⟨k+1,m*10+(s[k].toNat-48),by omega,by go_num,by congr 1;omega,by have:=hm.o;subst this;exact H1.o.symm⟩
    case measure=>simp[intOf];omega
  · have hk':k=s.size:=by omega
    have HK:=hid hk';clear hk';go_wp2;go_ret
    refine⟨dK ?_,rfl⟩;rw[hm.o,HK.o,List.take_of_length_le (by rw[aF];exact Nat.le_refl _)]
def Zs (xs:List Nat) (n:Nat):Prop:=n≤xs.length∧∀ i,n≤i→i<xs.length→xs.getD i 0=0
theorem Zs.start (xs:List Nat):Zs xs xs.length:=⟨Nat.le_refl _,fun i h1 h2=>by omega⟩
theorem Zs.step {xs:List Nat}{n:Nat}(h:Zs xs n)(h0:xs.getD (n-1) 0=0):Zs xs (n-1):=by
 refine⟨by have:=h.1;omega,fun i h1 h2=>?_⟩;by_cases hi:n≤i
 · exact h.2 i hi h2
 · obtain rfl:i=n-1:=by omega
   exact h0
theorem Zs.fin {xs:List Nat}{n:Nat}(h:Zs xs n)(hB:∀ x∈xs,x<BB)(hl:n=0∨xs.getD (n-1) 0≠0):n=(ae (ai xs)).length:=by
 rw[gV h.1 hB h.2 hl,List.length_take,Nat.min_eq_left h.1]
theorem oI (b o c:Nat)(xs:List Nat)(hB:∀ x∈xs,x<BB)(hxc:xs.length≤c)(hcm:c≤maxLen)(w:World)
 (hc:∀ i,i<xs.length→w.cell? ⟨b,o+i,none⟩=some (.int .u64 ((xs.getD i 0:Nat):Int))) :
 Calls Tryz.prog 203 #[.slice (some ⟨b,o,none⟩) xs.length c] w fun e w'=>e=.returned (.slice (some ⟨b,o,none⟩) (ae (ai xs)).length c)∧w=w':=by
 unfold maxLen at hcm
 have HC:=hid hc;have HB:=hid hB;clear hc hB;go_enter func203,ntmps203
 go_wp2;go_loop [0] (fun x=>∃ n:Nat,n≤c∧x=.slice (some ⟨b,o,none⟩) n c∧Zs xs n) (fun x=>match x with | .slice _ n _=>n|_=>0)
 case atStart=>exact⟨xs.length,hxc,rfl,Zs.start xs⟩
 case round =>
  obtain⟨n,hn,rfl,hz⟩:=hrel;by_cases h0:n=0
  · have HF:=hid (hz.fin HB.o (Or.inl h0))
    subst h0;go_wp2;go_ret
    exact⟨kK HF.o,rfl⟩
  · have hp:0<n:=by omega
    have hcell:=HC.o (n-1) (by have:=hz.1;omega);by_cases hd:xs.getD (n-1) 0=0
    · rw[hd]at hcell
      have hz':=hz.step hd;clear hd;go_wp2;go_round
      case rel=>exact⟨n-1,by omega,rfl,hz'⟩
      case measure=>simp;omega
    · have HF:=hid (hz.fin HB.o (Or.inr hd))
      obtain⟨d,hdd⟩:∃ d,d=xs.getD (n-1) 0:=⟨_,rfl⟩;rw[← hdd]at hcell hd;have hb:((d:Int)==0)=false:=by simpa using hd
      have hd':0<d:=by omega
      clear hd hdd;go_wp2;go_ret
      exact⟨kK HF.o,rfl⟩
theorem fC (k:TypeId)(B:Nat)(v:Value)(xs:List Nat)(hB:∀ x∈xs,x<BB)(w:World)(h:Gb.Own .u64 k B w v xs) :
 Calls Tryz.prog 203 #[v] w fun e w'=>∃ v',e=.returned v'∧Gb.Own .u64 k B w v' (ae (ai xs))∧w=w':=by
 have hd:xs.take (ae (ai xs)).length=ae (ai xs)∧(ae (ai xs)).length≤xs.length:=by
  have hlen:(ae (ai xs)).length≤xs.length:=bL (dS xs hB);refine⟨?_,hlen⟩;generalize hm:(ae (ai xs)).length=m at hlen
  have key:∀ (n:Nat),Zs xs n→ae (ai xs)=xs.take (ae (ai xs)).length:=by
   intro n
   induction n with
   | zero=>intro hz;have e:=gV hz.1 hB hz.2 (Or.inl rfl);have:=hz.fin hB (Or.inl rfl);rw[← this];exact e
   | succ n ih =>
     intro hz;by_cases h0:xs.getD n 0=0
     · exact ih (by have:=hz.step (by simpa using h0);simpa using this)
     · have e:=gV hz.1 hB hz.2 (Or.inr (by simpa using h0))
       have:=hz.fin hB (Or.inr (by simpa using h0));rw[← this];exact e
  rw[← hm];exact(key _ (Zs.start xs)).symm
 have h0:=h;obtain⟨h1,h2⟩:=h;rcases h2 with⟨rfl,h3⟩|⟨g,cap,cur,rfl,hg,hh,hn,hc,hs,ht⟩
 · obtain rfl:xs=[]:=List.length_eq_zero_iff.1 h3
   have hz:ae (ai [])=[]:=by unfold ai;exact aQ
   rw[hz];clear hd hB h0 hz;go_enter func203,ntmps203
   go_wp2;refine wp_loop_rounds 1 ?_;rw[rounds_succ];go_wp2;go_ret
   exact⟨_,rfl,Gb.Own.nil _ _ _ _,rfl⟩
 · have hrd:∀ i,i<xs.length→w.cell? ⟨g,0+i,none⟩=some (.int .u64 ((xs.getD i 0:Nat):Int)):=by
    rcases h0.rd with⟨hv,_⟩|⟨b,o,c,hv,_,_,_,h5⟩
    · injection hv with hv;cases hv
    · injection hv with e1 e2 e3
      injection e1 with e1
      injection e1 with e4 e5 e6
      subst e4 e5 e3;exact h5
   refine(oI g 0 cap xs hB hn hc w hrd).mono fun e w' ⟨he,hw⟩=>⟨_,he,?_,hw⟩;have:=h0.take (ae (ai xs)).length hd.2;rwa [hd.1]at this
def Blk (w:World) (g:Nat) (zs:List Nat):Prop:=w.heap[g]? = some (.cells (cls .u64 zs).toArray 112 (0,0))
theorem Blk.lt {w:World}{g:Nat}{zs:List Nat}(h:Blk w g zs):g<w.heap.size:=(Array.getElem?_eq_some_iff.1 h).1
theorem Blk.cell {w:World}{g:Nat}{zs:List Nat}(h:Blk w g zs){i:Nat}(hi:i<zs.length):w.cell? ⟨g,i,none⟩=some (.int .u64 ((zs.getD i 0:Nat):Int)):=by
 unfold Blk at h
 have:=jF (k:=.u64) hi;simp only[World.cell?,h];simpa using this
theorem Blk.free {w:World}{g:Nat}{zs:List Nat}(h:Blk w g zs)(i:Nat):w.frozen? ⟨g,i,none⟩=false:=by
 unfold Blk at h
 simp only[World.frozen?,h];simp
theorem Blk.set {w:World}{g:Nat}{zs:List Nat}(h:Blk w g zs)(i v:Nat):Blk (w.setCell ⟨g,i,none⟩ (.int .u64 ((v:Nat):Int))) g (zs.set i v):=by
 unfold Blk at *
 simp only[World.setCell,Array.getElem?_modify,h];simp[rZ]
theorem Blk.grown {w w':World}{g:Nat}{zs:List Nat}(h:Blk w g zs){row:Option Nat}(hg:w.grownBy w' row)(hne:row≠some g):Blk w' g zs:=by
 unfold Blk at *
 rw[hg.block g (Array.getElem?_eq_some_iff.1 h).1 (fun e=>hne e.symm)];exact h
theorem Blk.below {w w':World}{g:Nat}{zs:List Nat}(h:Blk w g zs)(hb:Below w.heap.size w w'):Blk w' g zs:=by
 unfold Blk at *
 rw[hb.block g (Array.getElem?_eq_some_iff.1 h).1];exact h
theorem Blk.own {w:World}{g B:Nat}{zs:List Nat}(h:Blk w g zs)(hB:B≤g)(hm:zs.length≤maxLen)(n:Nat)(hn:n≤zs.length):Gb.Own .u64 112 B w (.slice (some ⟨g,0,none⟩) n zs.length) (zs.take n):=by
 refine⟨by simp[cls],Or.inr ⟨g,zs.length,(cls .u64 zs).toArray,?_,hB,h,?_,hm,by simp[cls],?_⟩⟩
 · rw[List.length_take,Nat.min_eq_left hn]
 · rw[List.length_take];omega
 · rw[mZ,List.length_take,Nat.mul_one,Nat.min_eq_left hn]
theorem Blk.of_made {w:World}{B g n:Nat}{xs:List Value}{zs:List Nat}(h:w.ownsRow B 112 1 (.slice (some ⟨g,0,none⟩) n n) n xs)(hx:xs=cls .u64 zs):Blk w g zs:=by
 obtain⟨h1,h2⟩:=h;rcases h2 with⟨h2,_⟩|⟨g',cap,cur,hv,hg,hh,hn,hc,hs,ht⟩
 · cases h2
 · injection hv with e1 e2 e3
   injection e1 with e1
   injection e1 with e4 e5 e6
   subst e4 e3;unfold Blk
   rw[hh];rw[Nat.mul_one]at ht hs;rw[List.take_of_length_le (by simpa using Nat.le_of_eq hs)]at ht;congr 2
   rw[← hx,← ht]
theorem set_mid (pre ys r:List Nat)(x v:Nat):(pre++(ys++(x :: r))).set (pre.length+ys.length) v=pre++((ys++[v])++r):=by
 simp
theorem nZ (pre ys r:List Nat)(x:Nat):(pre++(ys++(x :: r))).getD (pre.length+ys.length) 0=x:=by
 simp[List.getD]
set_option maxHeartbeats 1000000 in
theorem gX (g c:Nat)(pre xs post:List Nat)(hM:∀ i,i<xs.length→xs.getD i 0≤MM 18)(hl:xs.length≤1000000)(w:World)(hb:Blk w g (pre++(xs++post))) :
 Calls Tryz.prog 243 #[.slice (some ⟨g,pre.length,none⟩) xs.length c] w fun e w'=>e=.returned (.tuple #[])∧(∃ (ys:List Nat) (k:Nat),ys.length=xs.length∧(∀ y∈ys,y<BB)∧ai ys+BB^xs.length*k=ai xs∧Blk w' g (pre++(ys++post)))∧w.grownBy w' (some g):=by
 have HM:=hid hM;have HB:=hid hb;clear hM hb;go_enter func243,ntmps243
 go_wp2;go_loopw [2,3,4,7] (fun cc _ _ ii wr=>∃ (i k:Nat) (ys:List Nat),i≤xs.length∧ii=.int .i64 i∧cc=.int .u64 (k:Int)∧lG xs ys i k∧Hid (Blk wr g (pre++(ys++(xs.drop i++post))))∧Hid (w.grownBy wr (some g))) (fun _ _ _ ii _=>xs.length-(intOf ii).toNat)
 case atStart=>exact⟨0,0,[],Nat.zero_le _,rfl,rfl,lG.start xs,HB,World.grownBy.refl _ _⟩
 case round =>
  obtain⟨i,k,ys,hi,rfl,rfl,hc,hB,hG⟩:=hrel;by_cases hlt:i<xs.length
  · obtain⟨hc',hbd⟩:=hc.step hlt (HM.o i hlt)
    have hx0:=hid hc.1;have hdr:=eU hlt;have hB':=hB.o;rw[hdr,List.cons_append]at hB';have hyl:ys.length=i:=hc.1;have hcell:=hB'.cell (i:=pre.length+ys.length) (by simp);have hfree:=hB'.free (pre.length+ys.length);have hset:=hB'.set (pre.length+ys.length) ((xs.getD i 0+k)%BB);rw[nZ]at hcell;rw[set_mid]at hset;rw[hyl]at hcell hfree hset;obtain ⟨HS,hG',HC⟩:=ak hset (Lib.grownBy_setB hG.o (pre.length+i) (.int .u64 (((xs.getD i 0+k)%BB:Nat):Int))) hc';clear hset hdr hB' hyl hc';generalize xs.getD i 0=x at *;have hmod:((x:Int)+(k:Int))%1000000000=(((x+k)%BB:Nat):Int):=by rw[aG];omega
    have hdiv:((x:Int)+(k:Int)) / 1000000000=(((x+k) / BB:Nat):Int):=by rw[aG];omega
    obtain ⟨HMd,HDv⟩:=aB hmod hdiv;clear hmod hdiv;go_wp2;go_roundw
    case rel=>exact⟨i+1,(x+k) / BB,ys++[(x+k)%BB],by omega,by go_num,by rw[HDv.o],HC.o,by rw[HMd.o];exact HS.o,by rw[HMd.o];exact hG'.o⟩
    case measure=>simp[intOf];omega
  · have hi':i=xs.length:=by omega
    have hfin:=hc;rw[hi']at hfin;have hfin:=hfin.done;have hB':=hB.o;rw[hi',List.drop_of_length_le (Nat.le_refl _),List.nil_append]at hB';obtain ⟨HF,HB'⟩:=aB hfin hB';clear hfin hB' hi';go_wp2;go_end0
    obtain⟨h1,h2,h3⟩:=HF.o;exact⟨rfl,⟨ys,k,h1,h2,h3,HB'.o⟩,hG.o⟩
instance {W W':World}{g:Nat}{l:List Nat}:Gr (Blk W g l) W W' (Blk W' g l):=⟨fun h k=>k.below h⟩
