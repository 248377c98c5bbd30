/- Texts of this proof, one behind the other. -/
import Derived.Test.YtggoeabhbkbadaaGreatDoorMz15q
set_option maxRecDepth 100000
set_option maxHeartbeats 20000000
open Go.Lib (hid)
namespace Go.Proofs.YtggoeabhbkbadaaGreatDoor
open Go.RowKit Go.Gb
def vldZ (l:List UInt8):Bool:=match l with
 | []=>false
 | c :: t=>if c=45 then vld t && !(t==[48]) else vld (c :: t)
def zval (l:List UInt8):Int:=match l with
 | []=>0
 | c :: t=>if c=45 then -(dval t:Int) else (dval (c :: t):Int)
theorem head_dig {n:Nat}:∃ c t,Lib.decDigits n=c :: t∧c≠45:=by
 cases h:Lib.decDigits n with
 | nil=>exact absurd h (dec_ne_nil n)
 | cons c t =>
   refine⟨c,t,rfl,?_⟩
   have h1:=dec_all n
   rw[h]at h1
   simp only[List.all_cons,Bool.and_eq_true]at h1
   have h2:=(isD_iff c).1 h1.1
   intro h3;subst h3;simp at h2
theorem zval_nat (n:Nat):zval (Lib.decDigits n)=(n:Int):=by
 obtain⟨c,t,h,hc⟩:=head_dig (n:=n)
 have hv:=dval_dec n
 rw[h]at hv ⊢
 unfold zval
 simp only[if_neg hc,hv]
theorem zval_neg (n:Nat):zval (45 :: Lib.decDigits n) = -(n:Int):=by
 unfold zval
 simp[dval_dec n]
theorem sz_of {a:ByteArray}(h:vldZ a.data.toList=true):a=Sz (zval a.data.toList):=by
 cases a with
 | mk d =>
   cases hl:d.toList with
   | nil=>simp[hl,vldZ]at h
   | cons c t =>
     simp only[hl]at h ⊢
     by_cases hc:c=45
     · subst hc
       simp only[vldZ,if_true,Bool.and_eq_true]at h
       obtain⟨h1,h2⟩:=h
       have hd:=dec_dval t h1
       have hne:dval t≠0:=by
        intro h0
        rw[h0,Lib.decDigits_one (by decide)]at hd
        rw[← hd]at h2
        simp at h2
       have e:zval (45 :: t) = -(dval t:Int):=by simp[zval]
       rw[e,sz_neg hne,hd,← hl]
     · simp only[vldZ,if_neg hc]at h
       have hd:=dec_dval (c :: t) h
       have e:zval (c :: t)=(dval (c :: t):Int):=by simp[zval,hc]
       rw[e,sz_nat]
       unfold Sn
       rw[hd,← hl]
theorem sz_val (z:Int):zval (Sz z).data.toList=z:=by
 rcases int_cases z with⟨n,hn,rfl⟩|rfl|⟨n,hn,rfl⟩
 · rw[sz_neg hn];simpa using zval_neg n
 · rw[show Sz 0=Sn 0 from sz_nat 0,sn_list];exact zval_nat 0
 · rw[sz_nat,sn_list];exact zval_nat n
theorem cut_neg (l:List UInt8)(w:World) :
 Calls Tryz.prog 117 #[.string ⟨(45 :: l).toArray⟩,.string ⟨#[45]⟩] w fun e w'=>e=.returned (.tuple #[.string ⟨l.toArray⟩,.bool true])∧w=w':=by
 refine(Tryz.strings_CutPrefix _ _ w).mono ?_
 rintro e w' ⟨rfl,rfl⟩
 refine⟨?_,rfl⟩
 simp[Lib.trimPrefix,Lib.hasPrefix,List.isPrefixOf]
theorem cut_not (s:ByteArray)(h:∀ t,s.data.toList≠45 :: t)(w:World) :
 Calls Tryz.prog 117 #[.string s,.string ⟨#[45]⟩] w fun e w'=>e=.returned (.tuple #[.string s,.bool false])∧w=w':=by
 refine(Tryz.strings_CutPrefix _ _ w).mono ?_
 rintro e w' ⟨rfl,rfl⟩
 refine⟨?_,rfl⟩
 have hp:Lib.hasPrefix s.data.toList [45]=false:=by
  unfold Lib.hasPrefix
  cases hl:s.data.toList with
  | nil=>rfl
  | cons c t =>
    have:¬ 45=c:=by intro hc;subst hc;exact h t hl
    simp[List.isPrefixOf,this]
 have e:(⟨#[45]⟩:ByteArray).data.toList=[45]:=rfl
 rw[e,hp]
 unfold Lib.trimPrefix
 rw[hp]
 cases s
 simp
def Zno:Value:=.agg #[.int .i64 0,.string ⟨#[]⟩]
theorem read_neg (n:Nat)(hn:n≠0)(hf:Fit n)(w:World) :
 CR 94 #[.string ⟨(45 :: Lib.decDigits n).toArray⟩] w (.tuple #[.agg #[.int .i64 (-1),.string (Sn n)],.bool true]):=by
 have HC:=hid (cut_neg (Lib.decDigits n))
 rw[show(⟨(Lib.decDigits n).toArray⟩:ByteArray)=Sn n from rfl]at HC
 have HV:=hid (nValid n hf)
 have h0:=sn_neq0 hn
 clear hn hf
 go_enter Tryz.func94,Tryz.ntmps94
 go_wp2_with fail
 refine(HC.out _).mono ?_
 rintro e w' ⟨rfl,rfl⟩
 go_wp2_with fail
 refine(HV.out _).mono ?_
 rintro e w' ⟨rfl,rfl⟩
 go_wp2
 refine bodyPost_ret (v:=.tuple #[.agg #[.int .i64 (-1),.string (Sn n)],.bool true]) (by simp[results,Tryz.results94,go_sem]) rfl ⟨rfl,?_⟩
 repeat (first|exact Below.refl _ _|refine Below.setCell ?_ (by simp) _|refine Below.alloc ?_ (by simp) _|refine Below.drew ?_)
theorem not45 {n:Nat}:∀ t,(Sn n).data.toList≠45 :: t:=by
 intro t h
 rw[sn_list]at h
 obtain⟨c,t',h2,hc⟩:=head_dig (n:=n)
 rw[h2]at h
 injection h with h3 h4
 exact hc h3
theorem read_nat (n:Nat)(hf:Fit n)(w:World)(hl:Zz w) :
 CR 94 #[.string (Sn n)] w (.tuple #[Zv (n:Int),.bool true]):=by
 have HC:=hid (cut_not (Sn n) not45)
 have HV:=hid (nValid n hf)
 have hb0:=(Below.refl w.heap.size w).alloc (Nat.le_refl _) (.cells #[.int .i64 0,.string ⟨#[]⟩] 116)
 have HS:=hid (signed_any 1 n (n:Int) (by omega) (Or.inl rfl) _ (hl.on hb0))
 unfold Zv at *
 generalize (n:Int).sign=s at *
 generalize Sn (n:Int).natAbs=b at *
 clear hf hl hb0
 go_enter Tryz.func94,Tryz.ntmps94
 go_wp2_with fail
 refine(HC.out _).mono ?_
 rintro e w' ⟨rfl,rfl⟩
 go_wp2_with fail
 refine(HV.out _).mono ?_
 rintro e w' ⟨rfl,rfl⟩
 go_wp2_with fail
 refine HS.out.mono ?_
 rintro e w1 ⟨rfl,hb1⟩
 have HB:=hid (((Below.refl w.heap.size w).alloc (Nat.le_refl _) (.cells #[.int .i64 0,.string ⟨#[]⟩] 116)).trans (hb1.mono (by simp)))
 obtain⟨hc,hf⟩:=bcell hb1
 have hz:w.heap.size<w1.heap.size:=by have:=hb1.size;simp at this;omega
 clear hb1
 go_wp2
 refine bodyPost_ret (v:=.tuple #[.agg #[.int .i64 s,.string b],.bool true]) (by simp[results,Tryz.results94,go_sem,hc]) rfl ⟨rfl,?_⟩
 repeat (first|exact HB.out|refine Below.setCell ?_ (by simp) _|refine Below.alloc ?_ (by simp) _|refine Below.drew ?_)
theorem read_yes (z:Int)(hf:FitZ z)(w:World)(hl:Zz w) :
 CR 94 #[.string (Sz z)] w (.tuple #[Zv z,.bool true]):=by
 rcases int_cases z with⟨n,hn,rfl⟩|rfl|⟨n,hn,rfl⟩
 · rw[sz_neg hn,zv_neg hn];exact read_neg n hn hf.neg w
 · rw[show Sz 0=Sn 0 from sz_nat 0];exact read_nat 0 fit0 w hl
 · rw[sz_nat];exact read_nat n hf.nat w hl
theorem read_bad1 (l:List UInt8)(h:vld l=false)(hs:l.length≤maxLen)(w:World) :
 CR 94 #[.string ⟨(45 :: l).toArray⟩] w (.tuple #[Zno,.bool false]):=by
 have HC:=hid (cut_neg l)
 have HV:=hid (Valid_no ⟨l.toArray⟩ (by simpa using h) (by simpa [ByteArray.size] using hs))
 clear h hs
 go_enter Tryz.func94,Tryz.ntmps94
 go_wp2_with fail
 refine(HC.out _).mono ?_
 rintro e w' ⟨rfl,rfl⟩
 go_wp2_with fail
 refine(HV.out _).mono ?_
 rintro e w' ⟨rfl,rfl⟩
 go_wp2
 refine bodyPost_ret (v:=.tuple #[Zno,.bool false]) (by simp[results,Tryz.results94,go_sem,Zno]) rfl ⟨rfl,?_⟩
 repeat (first|exact Below.refl _ _|refine Below.setCell ?_ (by simp) _|refine Below.alloc ?_ (by simp) _|refine Below.drew ?_)
theorem read_bad2 (w:World) :
 CR 94 #[.string ⟨(45 :: [48]).toArray⟩] w (.tuple #[Zno,.bool false]):=by
 have HC:=hid (cut_neg [48])
 have HV:=hid (Valid_yes ⟨#[48]⟩ (by decide +kernel) (by decide))
 go_enter Tryz.func94,Tryz.ntmps94
 go_wp2_with fail
 refine(HC.out _).mono ?_
 rintro e w' ⟨rfl,rfl⟩
 go_wp2_with fail
 refine(HV.out _).mono ?_
 rintro e w' ⟨rfl,rfl⟩
 go_wp2
 refine bodyPost_ret (v:=.tuple #[Zno,.bool false]) (by simp[results,Tryz.results94,go_sem,Zno]) rfl ⟨rfl,?_⟩
 repeat (first|exact Below.refl _ _|refine Below.setCell ?_ (by simp) _|refine Below.alloc ?_ (by simp) _|refine Below.drew ?_)
theorem read_bad3 (s:ByteArray)(h0:∀ t,s.data.toList≠45 :: t)(h:vld s.data.toList=false)(hs:s.size≤maxLen)(w:World) :
 CR 94 #[.string s] w (.tuple #[Zno,.bool false]):=by
 have HC:=hid (cut_not s h0)
 have HV:=hid (Valid_no s h hs)
 clear h hs h0
 go_enter Tryz.func94,Tryz.ntmps94
 go_wp2_with fail
 refine(HC.out _).mono ?_
 rintro e w' ⟨rfl,rfl⟩
 go_wp2_with fail
 refine(HV.out _).mono ?_
 rintro e w' ⟨rfl,rfl⟩
 go_wp2
 refine bodyPost_ret (v:=.tuple #[Zno,.bool false]) (by simp[results,Tryz.results94,go_sem,Zno]) rfl ⟨rfl,?_⟩
 repeat (first|exact Below.refl _ _|refine Below.setCell ?_ (by simp) _|refine Below.alloc ?_ (by simp) _|refine Below.drew ?_)
theorem read_no (s:ByteArray)(h:vldZ s.data.toList=false)(hs:s.size≤maxLen)(w:World) :
 CR 94 #[.string s] w (.tuple #[Zno,.bool false]):=by
 cases s with
 | mk d =>
   cases hl:d.toList with
   | nil =>
     refine read_bad3 ⟨d⟩ (fun t=>by simp[hl]) (by simp[hl,vld]) hs w
   | cons c t =>
     by_cases hc:c=45
     · subst hc
       have hd:d=(45 :: t).toArray:=by rw[← hl]
       have ht:t.length≤maxLen:=by
        have:d.size=t.length+1:=by rw[← Array.length_toList,hl];simp
        simp[ByteArray.size]at hs;omega
       simp only[hl,vldZ,if_true,Bool.and_eq_false_iff]at h
       rw[hd]
       rcases h with h|h
       · exact read_bad1 t h ht w
       · obtain rfl:t=[48]:=by simpa using h
         exact read_bad2 w
     · refine read_bad3 ⟨d⟩ (fun t'=>?_) ?_ hs w
       · simp only[hl];intro h2;injection h2 with h3 h4;exact hc h3
       · simp only[hl,vldZ,if_neg hc]at h ⊢;exact h
theorem zValid_yes (z:Int)(hf:FitZ z)(w:World)(hl:Zz w) :
 CR 69 #[.string (Sz z)] w (.bool true):=by
 have HR:=hid (read_yes z hf w hl)
 unfold Zv at HR
 generalize z.sign=s at *
 generalize Sn z.natAbs=b at *
 clear hf hl
 go_enter Tryz.func69,Tryz.ntmps69
 go_wp2_with fail
 refine HR.out.mono ?_
 rintro e w1 ⟨rfl,hb1⟩
 have HB:=hid hb1
 clear hb1
 go_wp2
 go_ret
 refine⟨rfl,?_⟩
 repeat (first|exact HB.out|refine Below.setCell ?_ (by have:=HB.out.size;simp;omega) _|refine Below.alloc ?_ (by have:=HB.out.size;simp;omega) _|refine Below.drew ?_)
theorem zValid_no (a:ByteArray)(h:vldZ a.data.toList=false)(hs:a.size≤maxLen)(w:World) :
 CR 69 #[.string a] w (.bool false):=by
 have HR:=hid (read_no a h hs w)
 unfold Zno at HR
 clear h hs
 go_enter Tryz.func69,Tryz.ntmps69
 go_wp2_with fail
 refine HR.out.mono ?_
 rintro e w1 ⟨rfl,hb1⟩
 have HB:=hid hb1
 clear hb1
 go_wp2
 go_ret
 refine⟨rfl,?_⟩
 repeat (first|exact HB.out|refine Below.setCell ?_ (by have:=HB.out.size;simp;omega) _|refine Below.alloc ?_ (by have:=HB.out.size;simp;omega) _|refine Below.drew ?_)
end Go.Proofs.YtggoeabhbkbadaaGreatDoor
namespace Go.Gb
theorem mk_parts (num:Int)(den:Nat)(hd:den≠0):(mkRat num den).num=num / ((Nat.gcd num.natAbs den:Nat):Int)∧(mkRat num den).den=den / Nat.gcd num.natAbs den:=by
 rw[← Rat.normalize_eq_mkRat hd,Rat.normalize_eq hd]
 exact⟨rfl,rfl⟩
theorem add_parts (X Y:Rat)(g more rest:Nat)(num:Int)(hg:g=Nat.gcd X.den Y.den)(hm:more=Y.den / g)(hnum:num=X.num*(more:Int)+Y.num*((X.den / g:Nat):Int))(hr:rest=Nat.gcd num.natAbs g) :
 (X+Y).num=num / (rest:Int)∧(X+Y).den=X.den / rest*more:=by
 have hY:=Y.den_nz
 have hX:=X.den_nz
 have hg0:0<g:=by rw[hg];exact Nat.gcd_pos_of_pos_left _ (by omega)
 have dX:g∣X.den:=by rw[hg];exact Nat.gcd_dvd_left _ _
 have dY:g∣Y.den:=by rw[hg];exact Nat.gcd_dvd_right _ _
 have hr0:0<rest:=by rw[hr];exact Nat.gcd_pos_of_pos_right _ hg0
 have drg:rest∣g:=by rw[hr];exact Nat.gcd_dvd_right _ _
 have hden:X.den / g*Y.den / rest=X.den / rest*more:=by
  obtain⟨p,hp⟩:=dX
  obtain⟨q,hq⟩:=dY
  obtain⟨t,ht⟩:=drg
  rw[hm,hp,hq,Nat.mul_div_cancel_left _ hg0,Nat.mul_div_cancel_left _ hg0]
  have e3:p*(g*q)=rest*(t*p*q):=by rw[ht];ac_rfl
  have e4:g*p=rest*(t*p):=by rw[ht];ac_rfl
  rw[e3,e4,Nat.mul_div_cancel_left _ hr0,Nat.mul_div_cancel_left _ hr0]
 have h:X+Y=Rat.add X Y:=rfl
 rw[h]
 subst hg hm hr
 unfold Rat.add
 simp only
 split
 · rename_i h1
   rw[h1,Nat.div_one,Nat.div_one]at hnum
   simp only
   rw[h1,Nat.gcd_one_right,Nat.div_one,Nat.div_one]
   exact⟨by rw[hnum];simp,rfl⟩
 · rw[Rat.maybeNormalize_eq]
   simp only[Int.divExact_eq_ediv,← hnum]
   exact⟨trivial,hden⟩
theorem mul_parts (X Y:Rat)(g1 g2:Nat)(h1:g1=Nat.gcd X.num.natAbs Y.den)(h2:g2=Nat.gcd Y.num.natAbs X.den) :
 (X*Y).num=X.num / (g1:Int)*(Y.num / (g2:Int))∧(X*Y).den=X.den / g2*(Y.den / g1):=by
 subst h1 h2
 have h:X*Y=Rat.mul X Y:=rfl
 rw[h]
 unfold Rat.mul
 simp only[Int.divExact_eq_ediv,Nat.divExact_eq_div]
 exact⟨trivial,trivial⟩
theorem neg_parts (X:Rat):(-X).num = -X.num∧(-X).den=X.den:=⟨rfl,rfl⟩
theorem inv_pos {X:Rat}(h:0<X.num):(X⁻¹).num=(X.den:Int)∧((X⁻¹).den:Int)=X.num:=by
 have e:X⁻¹=Rat.inv X:=rfl
 rw[e]
 unfold Rat.inv
 rw[dif_neg (by omega),dif_pos h]
 exact⟨rfl,by simp only;omega⟩
theorem inv_neg' {X:Rat}(h:X.num<0):(X⁻¹).num = -(X.den:Int)∧((X⁻¹).den:Int) = -X.num:=by
 have e:X⁻¹=Rat.inv X:=rfl
 rw[e]
 unfold Rat.inv
 rw[dif_pos h]
 exact⟨rfl,by simp only;omega⟩
theorem add_small (X Y:Rat):X+Y=mkRat (X.num*(Y.den:Int)+Y.num*(X.den:Int)) (X.den*Y.den):=by
 have h1:=X.den_nz
 have h2:=Y.den_nz
 rw[Rat.add_def,Rat.normalize_eq_mkRat]
theorem mul_small (X Y:Rat):X*Y=mkRat (X.num*Y.num) (X.den*Y.den):=by
 rw[Rat.mul_def,Rat.normalize_eq_mkRat]
theorem sub_small (X Y:Rat):X-Y=mkRat (X.num*(Y.den:Int)-Y.num*(X.den:Int)) (X.den*Y.den):=by
 rw[Rat.sub_eq_add_neg,add_small]
 show mkRat (X.num*(Y.den:Int) + -Y.num*(X.den:Int)) (X.den*Y.den)=_
 rw[Int.neg_mul];congr 1
theorem div_small_pos (X Y:Rat)(h:0<Y.num):X / Y=mkRat (X.num*(Y.den:Int)) (X.den*Y.num.toNat):=by
 obtain⟨e1,e2⟩:=inv_pos h
 rw[Rat.div_def,mul_small,e1]
 congr 2
 omega
theorem div_small_neg (X Y:Rat)(h:Y.num<0):X / Y=mkRat (-(X.num*(Y.den:Int))) (X.den*(-Y.num).toNat):=by
 obtain⟨e1,e2⟩:=inv_neg' h
 rw[Rat.div_def,mul_small,e1,Int.mul_neg]
 congr 2
 omega
def cmpQ (x y:Rat):Int:=if x<y then -1 else if y<x then 1 else 0
theorem cmpQ_lt {x y:Rat}(h:x<y):cmpQ x y = -1:=by unfold cmpQ;rw[if_pos h]
theorem cmpQ_gt {x y:Rat}(h:y<x):cmpQ x y=1:=by
 unfold cmpQ;rw[if_neg (by grind),if_pos h]
theorem cmpQ_eq (x:Rat):cmpQ x x=0:=by
 unfold cmpQ;rw[if_neg (by grind),if_neg (by grind)]
theorem cmpQ_cross (X Y:Rat)(a b:Int)(ha:a=X.num*(Y.den:Int))(hb:b=Y.num*(X.den:Int)):cmpQ X Y=if a<b then -1 else if b<a then 1 else 0:=by
 unfold cmpQ
 simp only[Rat.lt_iff,← ha,← hb]
theorem cmpQ_cases (x y:Rat):(x<y∧cmpQ x y = -1)∨(x=y∧cmpQ x y=0)∨(y<x∧cmpQ x y=1):=by
 by_cases h1:x<y
 · exact Or.inl ⟨h1,cmpQ_lt h1⟩
 · by_cases h2:y<x
   · exact Or.inr (Or.inr ⟨h2,cmpQ_gt h2⟩)
   · have:x=y:=by grind
     subst this
     exact Or.inr (Or.inl ⟨rfl,cmpQ_eq x⟩)
theorem cmpQ_zero {x y:Rat}:cmpQ x y=0↔x=y:=by
 rcases cmpQ_cases x y with⟨h,e⟩|⟨h,e⟩|⟨h,e⟩<;>rw[e]
 · exact⟨fun h=>(by cases h),fun e=>(by subst e;exact absurd h Rat.lt_irrefl)⟩
 · exact⟨fun _=>h,fun _=>rfl⟩
 · exact⟨fun h=>(by cases h),fun e=>(by subst e;exact absurd h Rat.lt_irrefl)⟩
end Go.Gb
