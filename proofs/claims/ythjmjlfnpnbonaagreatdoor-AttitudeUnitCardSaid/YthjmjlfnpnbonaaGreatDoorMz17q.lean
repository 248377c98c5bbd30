/- Texts of this proof, one behind the other. -/
import Derived.Test.YthjmjlfnpnbonaaGreatDoorMz16q
set_option maxRecDepth 100000
set_option maxHeartbeats 20000000
open Go.Lib (hid)
namespace Go.Proofs.YthjmjlfnpnbonaaGreatDoor
open Go.RowKit Go.Gb
def vldZ (l:List UInt8):Bool:=match l with
 | []=>false
 | c :: t=>if c=45 then vld t && !(t==[48]) else vld (c :: t)
def zval (l:List UInt8):Int:=match l with
 | []=>0
 | c :: t=>if c=45 then -(dval t:Int) else (dval (c :: t):Int)
theorem head_dig {n:Nat}:∃ c t,Lib.decDigits n=c :: t∧c≠45:=by
 cases h:Lib.decDigits n with
 | nil=>exact absurd h (dec_ne_nil n)
 | cons c t =>
   refine⟨c,t,rfl,?_⟩
   have h1:=dec_all n
   rw[h]at h1
   simp only[List.all_cons,Bool.and_eq_true]at h1
   have h2:=(isD_iff c).1 h1.1
   intro h3;subst h3;simp at h2
theorem vldZ_nat (n:Nat):vldZ (Lib.decDigits n)=true:=by
 obtain⟨c,t,h,hc⟩:=head_dig (n:=n)
 have hv:=vld_dec n
 rw[h]at hv ⊢
 unfold vldZ
 simp only[if_neg hc,hv]
theorem zval_nat (n:Nat):zval (Lib.decDigits n)=(n:Int):=by
 obtain⟨c,t,h,hc⟩:=head_dig (n:=n)
 have hv:=dval_dec n
 rw[h]at hv ⊢
 unfold zval
 simp only[if_neg hc,hv]
theorem dec48 {n:Nat}(h:Lib.decDigits n=[48]):n=0:=by rw[← dval_dec n,h];rfl
theorem vldZ_neg {n:Nat}(hn:n≠0):vldZ (45 :: Lib.decDigits n)=true:=by
 have h:(Lib.decDigits n==[48])=false:=beq_eq_false_iff_ne.2 (fun h=>hn (dec48 h))
 unfold vldZ
 simp[vld_dec n,h]
theorem zval_neg (n:Nat):zval (45 :: Lib.decDigits n) = -(n:Int):=by
 unfold zval
 simp[dval_dec n]
theorem sz_of {a:ByteArray}(h:vldZ a.data.toList=true):a=Sz (zval a.data.toList):=by
 cases a with
 | mk d =>
   cases hl:d.toList with
   | nil=>simp[hl,vldZ]at h
   | cons c t =>
     simp only[hl]at h ⊢
     by_cases hc:c=45
     · subst hc
       simp only[vldZ,if_true,Bool.and_eq_true]at h
       obtain⟨h1,h2⟩:=h
       have hd:=dec_dval t h1
       have hne:dval t≠0:=by
        intro h0
        rw[h0,Lib.decDigits_one (by decide)]at hd
        rw[← hd]at h2
        simp at h2
       have e:zval (45 :: t) = -(dval t:Int):=by simp[zval]
       rw[e,sz_neg hne,hd,← hl]
     · simp only[vldZ,if_neg hc]at h
       have hd:=dec_dval (c :: t) h
       have e:zval (c :: t)=(dval (c :: t):Int):=by simp[zval,hc]
       rw[e,sz_nat]
       unfold Sn
       rw[hd,← hl]
theorem sz_vld (z:Int):vldZ (Sz z).data.toList=true:=by
 rcases int_cases z with⟨n,hn,rfl⟩|rfl|⟨n,hn,rfl⟩
 · rw[sz_neg hn];simpa using vldZ_neg hn
 · rw[show Sz 0=Sn 0 from sz_nat 0,sn_list];exact vldZ_nat 0
 · rw[sz_nat,sn_list];exact vldZ_nat n
theorem sz_val (z:Int):zval (Sz z).data.toList=z:=by
 rcases int_cases z with⟨n,hn,rfl⟩|rfl|⟨n,hn,rfl⟩
 · rw[sz_neg hn];simpa using zval_neg n
 · rw[show Sz 0=Sn 0 from sz_nat 0,sn_list];exact zval_nat 0
 · rw[sz_nat,sn_list];exact zval_nat n
theorem cut_neg (l:List UInt8)(w:World) :
 Calls Tryz.prog 136 #[.string ⟨(45 :: l).toArray⟩,.string ⟨#[45]⟩] w fun e w'=>e=.returned (.tuple #[.string ⟨l.toArray⟩,.bool true])∧w=w':=by
 refine(Tryz.strings_CutPrefix _ _ w).mono ?_
 rintro e w' ⟨rfl,rfl⟩
 refine⟨?_,rfl⟩
 simp[Lib.trimPrefix,Lib.hasPrefix,List.isPrefixOf]
theorem cut_not (s:ByteArray)(h:∀ t,s.data.toList≠45 :: t)(w:World) :
 Calls Tryz.prog 136 #[.string s,.string ⟨#[45]⟩] w fun e w'=>e=.returned (.tuple #[.string s,.bool false])∧w=w':=by
 refine(Tryz.strings_CutPrefix _ _ w).mono ?_
 rintro e w' ⟨rfl,rfl⟩
 refine⟨?_,rfl⟩
 have hp:Lib.hasPrefix s.data.toList [45]=false:=by
  unfold Lib.hasPrefix
  cases hl:s.data.toList with
  | nil=>rfl
  | cons c t =>
    have:¬ 45=c:=by intro hc;subst hc;exact h t hl
    simp[List.isPrefixOf,this]
 have e:(⟨#[45]⟩:ByteArray).data.toList=[45]:=rfl
 rw[e,hp]
 unfold Lib.trimPrefix
 rw[hp]
 cases s
 simp
def Zno:Value:=.agg #[.int .i64 0,.string ⟨#[]⟩]
theorem read_neg (n:Nat)(hn:n≠0)(hf:Fit n)(w:World) :
 CR 120 #[.string ⟨(45 :: Lib.decDigits n).toArray⟩] w (.tuple #[.agg #[.int .i64 (-1),.string (Sn n)],.bool true]):=by
 have HC:=hid (cut_neg (Lib.decDigits n))
 rw[show(⟨(Lib.decDigits n).toArray⟩:ByteArray)=Sn n from rfl]at HC
 have HV:=hid (nValid n hf)
 have h0:=sn_neq0 hn
 clear hn hf
 go_enter Tryz.func120,Tryz.ntmps120
 go_wp2_with fail
 refine(HC.out _).mono ?_
 rintro e w' ⟨rfl,rfl⟩
 go_wp2_with fail
 refine(HV.out _).mono ?_
 rintro e w' ⟨rfl,rfl⟩
 go_wp2
 refine bodyPost_ret (v:=.tuple #[.agg #[.int .i64 (-1),.string (Sn n)],.bool true]) (by simp[results,Tryz.results120,go_sem]) rfl ⟨rfl,?_⟩
 repeat (first|exact Below.refl _ _|refine Below.setCell ?_ (by simp) _|refine Below.alloc ?_ (by simp) _|refine Below.drew ?_)
theorem not45 {n:Nat}:∀ t,(Sn n).data.toList≠45 :: t:=by
 intro t h
 rw[sn_list]at h
 obtain⟨c,t',h2,hc⟩:=head_dig (n:=n)
 rw[h2]at h
 injection h with h3 h4
 exact hc h3
theorem read_nat (n:Nat)(hf:Fit n)(w:World)(hl:Zz w) :
 CR 120 #[.string (Sn n)] w (.tuple #[Zv (n:Int),.bool true]):=by
 have HC:=hid (cut_not (Sn n) not45)
 have HV:=hid (nValid n hf)
 have hb0:=(Below.refl w.heap.size w).alloc (Nat.le_refl _) (.cells #[.int .i64 0,.string ⟨#[]⟩] 155)
 have HS:=hid (signed_any 1 n (n:Int) (by omega) (Or.inl rfl) _ (hl.on hb0))
 unfold Zv at *
 generalize (n:Int).sign=s at *
 generalize Sn (n:Int).natAbs=b at *
 clear hf hl hb0
 go_enter Tryz.func120,Tryz.ntmps120
 go_wp2_with fail
 refine(HC.out _).mono ?_
 rintro e w' ⟨rfl,rfl⟩
 go_wp2_with fail
 refine(HV.out _).mono ?_
 rintro e w' ⟨rfl,rfl⟩
 go_wp2_with fail
 refine HS.out.mono ?_
 rintro e w1 ⟨rfl,hb1⟩
 have HB:=hid (((Below.refl w.heap.size w).alloc (Nat.le_refl _) (.cells #[.int .i64 0,.string ⟨#[]⟩] 155)).trans (hb1.mono (by simp)))
 obtain⟨hc,hf⟩:=bcell hb1
 have hz:w.heap.size<w1.heap.size:=by have:=hb1.size;simp at this;omega
 clear hb1
 go_wp2
 refine bodyPost_ret (v:=.tuple #[.agg #[.int .i64 s,.string b],.bool true]) (by simp[results,Tryz.results120,go_sem,hc]) rfl ⟨rfl,?_⟩
 repeat (first|exact HB.out|refine Below.setCell ?_ (by simp) _|refine Below.alloc ?_ (by simp) _|refine Below.drew ?_)
theorem read_yes (z:Int)(hf:FitZ z)(w:World)(hl:Zz w) :
 CR 120 #[.string (Sz z)] w (.tuple #[Zv z,.bool true]):=by
 rcases int_cases z with⟨n,hn,rfl⟩|rfl|⟨n,hn,rfl⟩
 · rw[sz_neg hn,zv_neg hn];exact read_neg n hn hf.neg w
 · rw[show Sz 0=Sn 0 from sz_nat 0];exact read_nat 0 fit0 w hl
 · rw[sz_nat];exact read_nat n hf.nat w hl
theorem read_bad1 (l:List UInt8)(h:vld l=false)(hs:l.length≤maxLen)(w:World) :
 CR 120 #[.string ⟨(45 :: l).toArray⟩] w (.tuple #[Zno,.bool false]):=by
 have HC:=hid (cut_neg l)
 have HV:=hid (Valid_no ⟨l.toArray⟩ (by simpa using h) (by simpa [ByteArray.size] using hs))
 clear h hs
 go_enter Tryz.func120,Tryz.ntmps120
 go_wp2_with fail
 refine(HC.out _).mono ?_
 rintro e w' ⟨rfl,rfl⟩
 go_wp2_with fail
 refine(HV.out _).mono ?_
 rintro e w' ⟨rfl,rfl⟩
 go_wp2
 refine bodyPost_ret (v:=.tuple #[Zno,.bool false]) (by simp[results,Tryz.results120,go_sem,Zno]) rfl ⟨rfl,?_⟩
 repeat (first|exact Below.refl _ _|refine Below.setCell ?_ (by simp) _|refine Below.alloc ?_ (by simp) _|refine Below.drew ?_)
theorem read_bad2 (w:World) :
 CR 120 #[.string ⟨(45 :: [48]).toArray⟩] w (.tuple #[Zno,.bool false]):=by
 have HC:=hid (cut_neg [48])
 have HV:=hid (Valid_yes ⟨#[48]⟩ (by decide +kernel) (by decide))
 go_enter Tryz.func120,Tryz.ntmps120
 go_wp2_with fail
 refine(HC.out _).mono ?_
 rintro e w' ⟨rfl,rfl⟩
 go_wp2_with fail
 refine(HV.out _).mono ?_
 rintro e w' ⟨rfl,rfl⟩
 go_wp2
 refine bodyPost_ret (v:=.tuple #[Zno,.bool false]) (by simp[results,Tryz.results120,go_sem,Zno]) rfl ⟨rfl,?_⟩
 repeat (first|exact Below.refl _ _|refine Below.setCell ?_ (by simp) _|refine Below.alloc ?_ (by simp) _|refine Below.drew ?_)
theorem read_bad3 (s:ByteArray)(h0:∀ t,s.data.toList≠45 :: t)(h:vld s.data.toList=false)(hs:s.size≤maxLen)(w:World) :
 CR 120 #[.string s] w (.tuple #[Zno,.bool false]):=by
 have HC:=hid (cut_not s h0)
 have HV:=hid (Valid_no s h hs)
 clear h hs h0
 go_enter Tryz.func120,Tryz.ntmps120
 go_wp2_with fail
 refine(HC.out _).mono ?_
 rintro e w' ⟨rfl,rfl⟩
 go_wp2_with fail
 refine(HV.out _).mono ?_
 rintro e w' ⟨rfl,rfl⟩
 go_wp2
 refine bodyPost_ret (v:=.tuple #[Zno,.bool false]) (by simp[results,Tryz.results120,go_sem,Zno]) rfl ⟨rfl,?_⟩
 repeat (first|exact Below.refl _ _|refine Below.setCell ?_ (by simp) _|refine Below.alloc ?_ (by simp) _|refine Below.drew ?_)
theorem read_no (s:ByteArray)(h:vldZ s.data.toList=false)(hs:s.size≤maxLen)(w:World) :
 CR 120 #[.string s] w (.tuple #[Zno,.bool false]):=by
 cases s with
 | mk d =>
   cases hl:d.toList with
   | nil =>
     refine read_bad3 ⟨d⟩ (fun t=>by simp[hl]) (by simp[hl,vld]) hs w
   | cons c t =>
     by_cases hc:c=45
     · subst hc
       have hd:d=(45 :: t).toArray:=by rw[← hl]
       have ht:t.length≤maxLen:=by
        have:d.size=t.length+1:=by rw[← Array.length_toList,hl];simp
        simp[ByteArray.size]at hs;omega
       simp only[hl,vldZ,if_true,Bool.and_eq_false_iff]at h
       rw[hd]
       rcases h with h|h
       · exact read_bad1 t h ht w
       · obtain rfl:t=[48]:=by simpa using h
         exact read_bad2 w
     · refine read_bad3 ⟨d⟩ (fun t'=>?_) ?_ hs w
       · simp only[hl];intro h2;injection h2 with h3 h4;exact hc h3
       · simp only[hl,vldZ,if_neg hc]at h ⊢;exact h
theorem zValid_yes (z:Int)(hf:FitZ z)(w:World)(hl:Zz w) :
 CR 101 #[.string (Sz z)] w (.bool true):=by
 have HR:=hid (read_yes z hf w hl)
 unfold Zv at HR
 generalize z.sign=s at *
 generalize Sn z.natAbs=b at *
 clear hf hl
 go_enter Tryz.func101,Tryz.ntmps101
 go_wp2_with fail
 refine HR.out.mono ?_
 rintro e w1 ⟨rfl,hb1⟩
 have HB:=hid hb1
 clear hb1
 go_wp2
 go_ret
 refine⟨rfl,?_⟩
 repeat (first|exact HB.out|refine Below.setCell ?_ (by have:=HB.out.size;simp;omega) _|refine Below.alloc ?_ (by have:=HB.out.size;simp;omega) _|refine Below.drew ?_)
theorem zValid_no (a:ByteArray)(h:vldZ a.data.toList=false)(hs:a.size≤maxLen)(w:World) :
 CR 101 #[.string a] w (.bool false):=by
 have HR:=hid (read_no a h hs w)
 unfold Zno at HR
 clear h hs
 go_enter Tryz.func101,Tryz.ntmps101
 go_wp2_with fail
 refine HR.out.mono ?_
 rintro e w1 ⟨rfl,hb1⟩
 have HB:=hid hb1
 clear hb1
 go_wp2
 go_ret
 refine⟨rfl,?_⟩
 repeat (first|exact HB.out|refine Below.setCell ?_ (by have:=HB.out.size;simp;omega) _|refine Below.alloc ?_ (by have:=HB.out.size;simp;omega) _|refine Below.drew ?_)
end Go.Proofs.YthjmjlfnpnbonaaGreatDoor
set_option maxRecDepth 100000
set_option maxHeartbeats 20000000
open Go.Lib (hid)
namespace Go.Proofs.YthjmjlfnpnbonaaGreatDoor
open Go.RowKit Go.Gb
theorem head_str {s:ByteArray}{c:UInt8}{l:List UInt8}(h:s.data.toList=c :: l):∃ h0:0<s.size,s[0]=c:=by
 have hl:0<s.data.toList.length:=by rw[h];simp
 have h0:0<s.size:=by rw[size_list]at hl;exact hl
 refine⟨h0,?_⟩
 rw[← get_list s 0 h0]
 simp[h]
theorem tail_str {s:ByteArray}{c:UInt8}{l:List UInt8}(h:s.data.toList=c :: l):s.extract 1 s.size=⟨l.toArray⟩:=by
 apply ByteArray.ext
 apply Array.ext'
 rw[extract_list,h]
 have:s.size=l.length+1:=by rw[← size_list,h];simp
 rw[this]
 simp
theorem ZValid_minus (s t:ByteArray)(b:Bool)(ht:s.extract 1 s.size=t)(h1:1<s.size)(h0:∃ h:0<s.size,((s[0].toNat:Int)==45)=true)(hb0:(s.toList==[45,48]) = !b)(hm:s.size≤maxLen)(hmt:t.size≤maxLen)(w:World) :
 Calls Tryz.prog 43 #[.string s] w fun e w'=>e=.returned (.bool (b&&vld t.data.toList))∧w=w':=by
 obtain⟨h2,h3⟩:=h0
 unfold maxLen at hm
 have k1:(1:Int)<(s.size:Int):=by omega
 have hb:(s.toList != [45,48])=b:=by unfold bne;rw[hb0];simp
 cases b with
 | true =>
   have hb1:(s.toList==[45,48])=false:=hb0
   have hb2:¬ s.toList=[45,48]:=by simpa using hb1
   have HV:=hid (RValid_any t w hmt)
   generalize vld t.data.toList=vt at *
   go_enter Tryz.func43,Tryz.ntmps43
   go_wp2_with fail
   refine HV.out.mono ?_
   rintro e w' ⟨rfl,rfl⟩
   go_wp2
   go_ret
   exact⟨by simp,rfl⟩
 | false =>
   have hb1:(s.toList==[45,48])=true:=hb0
   have hb2:s.toList=[45,48]:=by simpa using hb1
   go_enter Tryz.func43,Tryz.ntmps43
   go_wp2
   go_ret
   exact⟨by simp,rfl⟩
theorem ZValid_plain (s:ByteArray)(h:s.size≤1∨(1<s.size∧∃ h:0<s.size,((s[0].toNat:Int)==45)=false))(hm:s.size≤maxLen)(w:World) :
 Calls Tryz.prog 43 #[.string s] w fun e w'=>e=.returned (.bool (vld s.data.toList))∧w=w':=by
 have HV:=hid (RValid_any s w hm)
 generalize vld s.data.toList=vt at *
 unfold maxLen at hm
 rcases h with h|⟨h1,h2,h3⟩
 · have k1:decide ((1:Int)<(s.size:Int))=false:=decide_eq_false (by omega)
   have k2:¬ (1:Int)<(s.size:Int):=by omega
   go_enter Tryz.func43,Tryz.ntmps43
   go_wp2_with fail
   refine HV.out.mono ?_
   rintro e w' ⟨rfl,rfl⟩
   go_wp2
   go_ret
   exact⟨rfl,rfl⟩
 · have k1:(1:Int)<(s.size:Int):=by omega
   go_enter Tryz.func43,Tryz.ntmps43
   go_wp2_with fail
   refine HV.out.mono ?_
   rintro e w' ⟨rfl,rfl⟩
   go_wp2
   go_ret
   exact⟨rfl,rfl⟩
theorem ZValid_any (s:ByteArray)(hm:s.size≤1000)(w:World) :
 Calls Tryz.prog 43 #[.string s] w fun e w'=>e=.returned (.bool (vldZ s.data.toList))∧w=w':=by
 have hm':s.size≤maxLen:=by unfold maxLen;omega
 cases hl:s.data.toList with
 | nil =>
   have h:=ZValid_plain s (Or.inl (by rw[← size_list,hl];simp)) hm' w
   rw[hl]at h
   exact h
 | cons c l =>
   obtain⟨h0,hc⟩:=head_str hl
   by_cases h45:c=45
   · subst h45
     cases l with
     | nil =>
       have h:=ZValid_plain s (Or.inl (by rw[← size_list,hl];simp)) hm' w
       rw[hl]at h
       exact h
     | cons d l =>
       have hsz:s.size=l.length+2:=by rw[← size_list,hl];simp
       have h:=ZValid_minus s _ (!((d :: l)==[48])) (tail_str hl) (by omega) ⟨h0,by rw[hc];rfl⟩ (by rw[toList_data,hl];simp) hm' (by show(d :: l).toArray.size≤maxLen;simp;unfold maxLen;omega) w
       have e2:vldZ (45 :: d :: l)=(!((d :: l)==[48])&&vld (d :: l)):=by
        show(if (45:UInt8)=45 then vld (d :: l) && !((d :: l)==[48]) else vld (45 :: d :: l))=_
        rw[if_pos rfl,Bool.and_comm]
       rw[e2]
       simpa using h
   · have hv:vldZ (c :: l)=vld (c :: l):=by show(if c=45 then vld l && !(l==[48]) else vld (c :: l))=_;rw[if_neg h45]
     rw[hv]
     have hb:((s[0].toNat:Int)==45)=false:=by
        rw[hc,beq_eq_false_iff_ne]
        intro h;apply h45
        apply UInt8.toNat_inj.1
        have:c.toNat=45:=by omega
        rw[this];rfl
     have h:=ZValid_plain s (by
        rcases Nat.lt_or_ge 1 s.size with h|h
        · exact Or.inr ⟨h,h0,hb⟩
        · exact Or.inl h) hm' w
     rw[hl]at h
     exact h
def Rz (w:World) (u:Value) (z:Int):Prop:=∃ v,u=.agg #[.bool (decide (z<0)),v]∧Rd .u32 w v (digs z.natAbs)
theorem rd_set {w:World}{v:Value}{xs:List Nat}{B:Nat}(h:Own .u32 89 B w v xs){a:Addr}(ha:a.block<B)(u:Value):Own .u32 89 B (w.setCell a u) v xs:=ownsRow_setCell_below h ha u
theorem ZRead_minus (s t:ByteArray)(ht:s.extract 1 s.size=t)(h1:1<s.size)(h0:∃ h:0<s.size,((s[0].toNat:Int)==45)=true)(hd:t.data.toList.all isD=true)(hm:s.size≤100000)(hmt:t.size≤100000)(w:World) :
 Calls Tryz.prog 46 #[.string s] w fun e w'=>∃ v,e=.returned (.agg #[.bool true,v])∧Rd .u32 w' v (digs (dval t.data.toList))∧Below w.heap.size w w':=by
 obtain⟨h2,h3⟩:=h0
 have k1:(1:Int)<(s.size:Int):=by omega
 have HF:=hid (RFrom_any t hd hmt (w.alloc (.cells #[.bool false,.slice none 0 0] 51)))
 have HB:=hid ((Below.refl w.heap.size w).alloc (Nat.le_refl _) (.cells #[.bool false,.slice none 0 0] 51))
 clear hd
 go_enter Tryz.func46,Tryz.ntmps46
 go_wp2_with fail
 refine HF.out.mono ?_
 rintro e w1 ⟨v,rfl,ho,hb⟩
 obtain⟨pv,cv,rfl⟩:=rd_form ho.rd
 obtain⟨lv,hlv⟩:∃ l,l=(digs (dval t.data.toList)).length:=⟨_,rfl⟩
 rw[← hlv]at ho ⊢
 have c0:w1.cell? ⟨w.heap.size,0,none⟩=some (.bool false):=(hb.cell (p:=⟨w.heap.size,0,none⟩) (by simp)).trans (by simp)
 have c1:w1.cell? ⟨w.heap.size,1,none⟩=some (.slice none 0 0):=(hb.cell (p:=⟨w.heap.size,1,none⟩) (by simp)).trans (by simp)
 have f0:w1.frozen? ⟨w.heap.size,0,none⟩=false:=(hb.frozen (p:=⟨w.heap.size,0,none⟩) (by simp)).trans (by simp)
 have f1:w1.frozen? ⟨w.heap.size,1,none⟩=false:=(hb.frozen (p:=⟨w.heap.size,1,none⟩) (by simp)).trans (by simp)
 have hz1:w.heap.size<w1.heap.size:=by have:=hb.size;simp at this;omega
 have HO:=hid ho
 have HB2:=hid (HB.out.trans (hb.mono (by simp)))
 clear ho hb hlv
 go_wp2
 refine bodyPost_ret (v:=.agg #[.bool true,.slice pv lv cv]) (by simp[results,Tryz.results46,go_sem,c0,c1]) rfl ⟨_,rfl,?_,?_⟩
 · exact(rd_set (rd_set HO.out (by simp) _) (by simp) _).rd
 · exact(HB2.out.setCell (Nat.le_refl _) _).setCell (Nat.le_refl _) _
end Go.Proofs.YthjmjlfnpnbonaaGreatDoor
set_option maxRecDepth 100000
set_option maxHeartbeats 20000000
open Go.Lib (hid)
namespace Go.Proofs.YthjmjlfnpnbonaaGreatDoor
open Go.RowKit Go.Gb
theorem ZRead_plain (s:ByteArray)(h0:∃ h:0<s.size,((s[0].toNat:Int)==45)=false)(hd:s.data.toList.all isD=true)(hm:s.size≤100000)(w:World) :
 Calls Tryz.prog 46 #[.string s] w fun e w'=>∃ v,e=.returned (.agg #[.bool false,v])∧Rd .u32 w' v (digs (dval s.data.toList))∧Below w.heap.size w w':=by
 obtain⟨h2,h3⟩:=h0
 have k1:(1:Int)≤(s.size:Int):=by omega
 have HF:=hid (RFrom_any s hd hm (w.alloc (.cells #[.bool false,.slice none 0 0] 51)))
 have HB:=hid ((Below.refl w.heap.size w).alloc (Nat.le_refl _) (.cells #[.bool false,.slice none 0 0] 51))
 clear hd
 go_enter Tryz.func46,Tryz.ntmps46
 go_wp2_with fail
 refine HF.out.mono ?_
 rintro e w1 ⟨v,rfl,ho,hb⟩
 obtain⟨pv,cv,rfl⟩:=rd_form ho.rd
 obtain⟨lv,hlv⟩:∃ l,l=(digs (dval s.data.toList)).length:=⟨_,rfl⟩
 rw[← hlv]at ho ⊢
 have c0:w1.cell? ⟨w.heap.size,0,none⟩=some (.bool false):=(hb.cell (p:=⟨w.heap.size,0,none⟩) (by simp)).trans (by simp)
 have c1:w1.cell? ⟨w.heap.size,1,none⟩=some (.slice none 0 0):=(hb.cell (p:=⟨w.heap.size,1,none⟩) (by simp)).trans (by simp)
 have f0:w1.frozen? ⟨w.heap.size,0,none⟩=false:=(hb.frozen (p:=⟨w.heap.size,0,none⟩) (by simp)).trans (by simp)
 have f1:w1.frozen? ⟨w.heap.size,1,none⟩=false:=(hb.frozen (p:=⟨w.heap.size,1,none⟩) (by simp)).trans (by simp)
 have hz1:w.heap.size<w1.heap.size:=by have:=hb.size;simp at this;omega
 have HO:=hid ho
 have HB2:=hid (HB.out.trans (hb.mono (by simp)))
 clear ho hb hlv
 go_wp2
 refine bodyPost_ret (v:=.agg #[.bool false,.slice pv lv cv]) (by simp[results,Tryz.results46,go_sem,c0,c1]) rfl ⟨_,rfl,?_,?_⟩
 · exact(rd_set (rd_set HO.out (by simp) _) (by simp) _).rd
 · exact(HB2.out.setCell (Nat.le_refl _) _).setCell (Nat.le_refl _) _
theorem zr_neg {w:World}{v:Value}{n:Nat}(h:Rd .u32 w v (digs n))(hn:n≠0):Rz w (.agg #[.bool true,v]) (-(n:Int)) :=
 ⟨v,by rw[decide_eq_true (show -(n:Int)<0 by omega)],by rw[Int.natAbs_neg,Int.natAbs_natCast];exact h⟩
theorem zr_nat {w:World}{v:Value}{n:Nat}(h:Rd .u32 w v (digs n)):Rz w (.agg #[.bool false,v]) (n:Int) :=
 ⟨v,by rw[decide_eq_false (show ¬ (n:Int)<0 by omega)],by rw[Int.natAbs_natCast];exact h⟩
theorem zRead (z:Int)(hf:FitZ z)(w:World) :
 Calls Tryz.prog 46 #[.string (Sz z)] w fun e w'=>∃ u,e=.returned u∧Rz w' u z∧Below w.heap.size w w':=by
 rcases Int.lt_or_le z 0 with h|h
 · obtain⟨n,hn,rfl⟩:∃ n:Nat,n≠0∧z = -(n:Int):=⟨z.natAbs,by omega,by omega⟩
   have hl:(Sz (-(n:Int))).data.toList=45 :: Lib.decDigits n:=by rw[sz_neg hn]
   obtain⟨h0,hc⟩:=head_str hl
   have hsz:(Sz (-(n:Int))).size=(Lib.decDigits n).length+1:=by rw[← size_list,hl];simp
   have hnl:(Sn n).size=(Lib.decDigits n).length:=by rw[← size_list,sn_list]
   have hp:0<(Lib.decDigits n).length:=List.length_pos_iff.2 (dec_ne_nil n)
   have hs:=hf.neg.size
   have ht:(Sz (-(n:Int))).extract 1 (Sz (-(n:Int))).size=Sn n:=tail_str hl
   have h1:=ZRead_minus (Sz (-(n:Int))) (Sn n) ht (by omega) ⟨h0,by rw[hc];rfl⟩ (by rw[sn_list];exact dec_all n) (by omega) (by omega) w
   rw[sn_dval]at h1
   exact h1.mono fun e w' ⟨v,e1,e2,e3⟩=>⟨_,e1,zr_neg e2 hn,e3⟩
 · obtain⟨n,rfl⟩:=Int.eq_ofNat_of_zero_le h
   rw[sz_nat]
   have hs:=hf.nat.size
   obtain⟨c,t,ht,hc⟩:=head_dig (n:=n)
   have hl:(Sn n).data.toList=c :: t:=by rw[sn_list,ht]
   obtain⟨h0,hc0⟩:=head_str hl
   have h1:=ZRead_plain (Sn n) ⟨h0,by
    rw[hc0,beq_eq_false_iff_ne]
    intro h;apply hc
    apply UInt8.toNat_inj.1
    have:c.toNat=45:=by omega
    rw[this];rfl⟩ (by rw[sn_list];exact dec_all n) (by omega) w
   rw[sn_dval]at h1
   exact h1.mono fun e w' ⟨v,e1,e2,e3⟩=>⟨_,e1,zr_nat e2,e3⟩
theorem rz_form {w:World}{u:Value}{z:Int}(h:Rz w u z):∃ p c,u=.agg #[.bool (decide (z<0)),.slice p (digs z.natAbs).length c]∧Rd .u32 w (.slice p (digs z.natAbs).length c) (digs z.natAbs):=by
 obtain⟨v,h1,h2⟩:=h
 obtain⟨p,c,rfl⟩:=rd_form h2
 exact⟨p,c,h1,h2⟩
theorem ZMake_raw (b:Bool)(p:Option Addr)(n c:Nat)(r:Bool)(hr:(b&&decide (0<n))=r)(hn:n≤1000000)(w:World) :
 CR 87 #[.bool b,.slice p n c] w (.agg #[.bool r,.slice p n c]):=by
 have HR:=hid hr
 clear hr
 cases b with
 | false =>
   obtain rfl:r=false:=by have:=HR.out;simpa using this.symm
   go_enter Tryz.func87,Tryz.ntmps87
   go_wp2
   refine bodyPost_ret (v:=.agg #[.bool false,.slice p n c]) (by simp[results,Tryz.results87,go_sem]) rfl ⟨rfl,?_⟩
   repeat (first|exact Below.refl _ _|refine Below.setCell ?_ (by simp) _|refine Below.alloc ?_ (by simp) _|refine Below.drew ?_)
 | true =>
   by_cases h0:0<n
   · obtain rfl:r=true:=by have:=HR.out;rw[decide_eq_true h0]at this;simpa using this.symm
     have k1:(0:Int)<(n:Int):=by omega
     go_enter Tryz.func87,Tryz.ntmps87
     go_wp2
     refine bodyPost_ret (v:=.agg #[.bool true,.slice p n c]) (by simp[results,Tryz.results87,go_sem]) rfl ⟨rfl,?_⟩
     repeat (first|exact Below.refl _ _|refine Below.setCell ?_ (by simp) _|refine Below.alloc ?_ (by simp) _|refine Below.drew ?_)
   · obtain rfl:n=0:=by omega
     obtain rfl:r=false:=by have:=HR.out;simpa using this.symm
     go_enter Tryz.func87,Tryz.ntmps87
     go_wp2
     refine bodyPost_ret (v:=.agg #[.bool false,.slice p 0 c]) (by simp[results,Tryz.results87,go_sem]) rfl ⟨rfl,?_⟩
     repeat (first|exact Below.refl _ _|refine Below.setCell ?_ (by simp) _|refine Below.alloc ?_ (by simp) _|refine Below.drew ?_)
theorem len_pos (n:Nat):decide (0<(digs n).length)=decide (0<n):=by
 by_cases h:n=0
 · rw[h,digs_zero];rfl
 · have:0<(digs n).length:=List.length_pos_iff.2 (by rw[digs_pos h];simp)
   rw[decide_eq_true this,decide_eq_true (by omega)]
theorem zMake (b:Bool)(v:Value)(n:Nat)(z:Int)(hz:z=if b then -(n:Int) else (n:Int))(hl:(digs n).length≤1000000)(w:World)(h:Rd .u32 w v (digs n)) :
 Calls Tryz.prog 87 #[.bool b,v] w fun e w'=>∃ u,e=.returned u∧Rz w' u z∧Below w.heap.size w w':=by
 obtain⟨p,c,rfl⟩:=rd_form h
 refine(ZMake_raw b p (digs n).length c (decide (z<0)) ?_ hl w).mono fun e w' ⟨h1,h2⟩=>⟨_,h1,⟨_,rfl,?_⟩,h2⟩
 · rw[len_pos,hz]
   cases b with
   | false=>simp
   | true =>
     by_cases h0:0<n
     · simp[h0]
     · obtain rfl:n=0:=by omega
       simp
 · have e:z.natAbs=n:=by rw[hz];cases b<;>simp
   rw[e]
   exact h.below h2
theorem zTo (u:Value)(z:Int)(hf:(digs z.natAbs).length≤10000)(hs:(Sn z.natAbs).size≤100000)(w:World)(h:Rz w u z) :
 CR 52 #[u] w (.string (Sz z)):=by
 obtain⟨p,c,rfl,hr⟩:=rz_form h
 obtain⟨b,hb⟩:∃ b,b=decide (z<0):=⟨_,rfl⟩
 rw[← hb]
 have hal:Below w.heap.size w (w.alloc (.cells #[.bool b,.slice p (digs z.natAbs).length c] 51)):=(Below.refl _ _).alloc (Nat.le_refl _) _
 have HT:=hid (RTo_any (.slice p (digs z.natAbs).length c) z.natAbs hf _ (hr.below hal))
 have HAL:=hid hal
 clear h hr hal
 generalize (digs z.natAbs).length=lz at *
 cases b with
 | true =>
   have hneg:z<0:=of_decide_eq_true hb.symm
   have hz:Sz z=⟨(45 :: Lib.decDigits z.natAbs).toArray⟩:=by unfold Sz;rw[if_pos hneg]
   have HZ:=hid hz
   have HS:=hid hs
   clear hz hneg hs hb
   go_enter Tryz.func52,Tryz.ntmps52
   go_wp2_with fail
   refine HT.out.mono ?_
   rintro e w1 ⟨rfl,hb1⟩
   have HB1:=hid (HAL.out.trans (hb1.mono HAL.out.size))
   clear hb1
   have hadd:=run_string_add_sum (P:=Tryz.prog) w1 ⟨#[45]⟩ (Sn z.natAbs) (by have:=HS.out;have e:(⟨#[45]⟩:ByteArray).size=1:=rfl;omega)
   go_wp2
   go_ret
   refine⟨?_,HB1.out⟩
   have e:(⟨#[45]⟩:ByteArray)++Sn z.natAbs=⟨(45 :: Lib.decDigits z.natAbs).toArray⟩:=by
    apply ByteArray.ext
    apply Array.ext'
    simp[Sn]
   rw[e,HZ.out]
   rfl
 | false =>
   have hneg:¬ z<0:=of_decide_eq_false hb.symm
   have hz:Sz z=Sn z.natAbs:=by unfold Sz;rw[if_neg hneg]
   have HZ:=hid hz
   clear hz hneg hs hb
   go_enter Tryz.func52,Tryz.ntmps52
   go_wp2_with fail
   refine HT.out.mono ?_
   rintro e w1 ⟨rfl,hb1⟩
   have HB1:=hid (HAL.out.trans (hb1.mono HAL.out.size))
   clear hb1
   go_wp2
   go_ret
   exact⟨by rw[HZ.out];rfl,HB1.out⟩
theorem ZSignum_raw (b:Bool)(p:Option Addr)(n c:Nat)(r:Int)(hr:r=if b then -1 else if 0<n then 1 else 0)(w:World) :
 CR 50 #[.agg #[.bool b,.slice p n c]] w (.int .i64 r):=by
 have HR:=hid hr
 clear hr
 cases b with
 | true =>
   go_enter Tryz.func50,Tryz.ntmps50
   go_wp2
   go_ret
   exact⟨ret_int (by rw[HR.out];rfl),(Below.refl _ _).alloc (Nat.le_refl _) _⟩
 | false =>
   by_cases h0:0<n
   · have e1:r=1:=by have:=HR.out;rw[if_pos h0]at this;exact this
     have k1:(0:Int)<(n:Int):=by omega
     have HE:=hid e1
     clear e1
     go_enter Tryz.func50,Tryz.ntmps50
     go_wp2
     go_ret
     exact⟨ret_int HE.out.symm,(Below.refl _ _).alloc (Nat.le_refl _) _⟩
   · obtain rfl:n=0:=by omega
     have e1:r=0:=by have:=HR.out;rw[if_neg h0]at this;exact this
     have HE:=hid e1
     clear e1 h0
     go_enter Tryz.func50,Tryz.ntmps50
     go_wp2
     go_ret
     exact⟨ret_int HE.out.symm,(Below.refl _ _).alloc (Nat.le_refl _) _⟩
theorem zSignum (u:Value)(z:Int)(w:World)(h:Rz w u z) :
 CR 50 #[u] w (.int .i64 z.sign):=by
 obtain⟨p,c,rfl,_⟩:=rz_form h
 refine ZSignum_raw _ p _ c z.sign ?_ w
 have hl:=len_pos z.natAbs
 rcases int_cases z with⟨n,hn,rfl⟩|rfl|⟨n,hn,rfl⟩
 · rw[Int.sign_neg,Int.sign_natCast_of_ne_zero hn]
   simp;omega
 · simp[digs_zero]
 · rw[Int.sign_natCast_of_ne_zero hn]
   have:0<(digs (n:Int).natAbs).length:=by rw[Int.natAbs_natCast];exact List.length_pos_iff.2 (by rw[digs_pos hn];simp)
   rw[decide_eq_false (by omega),if_neg (by simp),if_pos this]
end Go.Proofs.YthjmjlfnpnbonaaGreatDoor
