/- Texts of this proof, one behind the other. -/
import Derived.Test.YtcihodmmaclihaaGreatDoorMz19q
import Derived.Deep.RegionHeld3
namespace Go.Proofs.YtcihodmmaclihaaGreatDoor
open Go.RowKit Go.Gb
def Sn (n:Nat):ByteArray:=⟨(Lib.decDigits n).toArray⟩
theorem sn_list (n:Nat):(Sn n).data.toList=Lib.decDigits n:=by simp[Sn]
theorem sn_vld (n:Nat):vld (Sn n).data.toList=true:=by rw[sn_list];exact vld_dec n
theorem sn_dval (n:Nat):dval (Sn n).data.toList=n:=by rw[sn_list];exact dval_dec n
def Sm (k n:Nat):Prop:=n<10^k
theorem Sm.mono {k l n:Nat}(h:Sm k n)(hkl:k≤l):Sm l n:=Nat.lt_of_lt_of_le h (Nat.pow_le_pow_right (by decide) hkl)
theorem Sm.le {k m n:Nat}(h:Sm k n)(hmn:m≤n):Sm k m:=Nat.lt_of_le_of_lt hmn h
theorem Sm.add {k m n:Nat}(hm:Sm k m)(hn:Sm k n):Sm (k+1) (m+n):=by
 unfold Sm at *;rw[Nat.pow_succ];omega
theorem Sm.mul {k l m n:Nat}(hm:Sm k m)(hn:Sm l n):Sm (k+l) (m*n):=by
 unfold Sm at *
 rw[Nat.pow_add]
 rcases Nat.eq_zero_or_pos n with h|h
 · rw[h,Nat.mul_zero];exact Nat.mul_pos (Nat.pow_pos (by decide)) (Nat.pow_pos (by decide))
 · exact Nat.mul_lt_mul_of_lt_of_le hm (Nat.le_of_lt hn) (Nat.pow_pos (by decide))
theorem Sm.of {a:ByteArray}(h:vld a.data.toList=true){k:Nat}(hl:a.size≤k):Sm k (dval a.data.toList):=by
 have h1:=dval_lt _ (all_of_vld h)
 exact Nat.lt_of_lt_of_le h1 (Nat.pow_le_pow_right (by decide) (by rw[size_list];exact hl))
theorem dec_len:∀ (k n:Nat),Sm k n→0<k→(Lib.decDigits n).length≤k
 | 0,_,_,h=>absurd h (by omega)
 | 1,n,h,_=>by
   have:n<10:=by simpa [Sm] using h
   rw[Lib.decDigits,dif_pos this];simp
 | k+2,n,h,_=>by
   by_cases h10:n<10
   · rw[Lib.decDigits,dif_pos h10];simp
   · rw[Lib.decDigits,dif_neg h10,List.length_append]
     have:=dec_len (k+1) (n / 10) (by unfold Sm at *;rw[Nat.pow_succ]at h;omega) (by omega)
     simp;omega
theorem sn_size {k n:Nat}(h:Sm k n)(hk:0<k):(Sn n).size≤k:=by
 have:=dec_len k n h hk
 rw[← sn_list,size_list]at this
 exact this
theorem sm_digs {k n:Nat}(h:Sm k n)(hk:0<k):(digs n).length≤k:=by
 have h1:=digs_len_str (all_of_vld (sn_vld n)) k (by rw[size_list];have:=sn_size h hk;omega)
 rwa [sn_dval]at h1
def Fit (n:Nat):Prop:=Sm 2000 n
theorem Fit.size {n:Nat}(h:Fit n):(Sn n).size≤2000:=sn_size h (by decide)
theorem Fit.max {n:Nat}(h:Fit n):(Sn n).size≤maxLen:=by have:=h.size;unfold maxLen;omega
theorem nValid (x:Nat)(hx:Fit x)(w:World) :
 Calls Tryz.prog 102 #[.string (Sn x)] w fun e w'=>e=.returned (.bool true)∧w=w' :=
 Valid_yes (Sn x) (sn_vld x) hx.max w
theorem nCompare (x y:Nat)(hx:Fit x)(hy:Fit y)(w:World) :
 Calls Tryz.prog 110 #[.string (Sn x),.string (Sn y)] w fun e w'=>e=.returned (.tuple #[.int .i64 (cmpN x y),.int .i64 0])∧w=w':=by
 have h:=Compare_yes (Sn x) (Sn y) (sn_vld x) (sn_vld y) hx.max hy.max w
 rwa [sn_dval,sn_dval]at h
theorem nAdd (x y:Nat)(hx:Fit x)(hy:Fit y)(w:World)(htab:Tb w) :
 CR 190 #[.string (Sn x),.string (Sn y)] w (.tuple #[.string (Sn (x+y)),.int .i64 0]):=by
 have sx:=hx.size
 have sy:=hy.size
 by_cases hs:(Sn x).size≤18∧(Sn y).size≤18
 · have h:=Add_short (Sn x) (Sn y) (sn_vld x) (sn_vld y) hs.1 hs.2 w htab
   rwa [sn_dval,sn_dval]at h
 · have hxy:x≠0∨y≠0:=by
    rcases Nat.eq_zero_or_pos x with h0|h0
    · rcases Nat.eq_zero_or_pos y with h1|h1
      · exfalso
        subst h0 h1
        have:(Sn 0).size≤1:=sn_size (k:=1) (by simp[Sm]) (by decide)
        omega
      · right;omega
    · left;omega
   have h:=Add_long (Sn x) (Sn y) (sn_vld x) (sn_vld y) (by omega) (by omega) (by omega) (by
    rw[sn_dval,sn_dval]
    exact add_any x y hxy (Nat.le_trans (sm_digs hx (by decide)) (by decide)) (Nat.le_trans (sm_digs hy (by decide)) (by decide))) w htab
   rwa [sn_dval,sn_dval]at h
theorem nSub (x y:Nat)(hx:Fit x)(hyx:y≤x)(w:World)(htab:Tb w) :
 CR 189 #[.string (Sn x),.string (Sn y)] w (.tuple #[.string (Sn (x-y)),.int .i64 0]):=by
 have sx:=hx.size
 have sy:=Fit.size (Sm.le hx hyx)
 have h:=Sub_yes (Sn x) (Sn y) (sn_vld x) (sn_vld y) (by rw[sn_dval,sn_dval];exact hyx) (by omega) (by omega) w htab
 rwa [sn_dval,sn_dval]at h
theorem nMul (x y:Nat)(hx:Fit x)(hy:Fit y)(w:World)(htab:Tb w) :
 CR 112 #[.string (Sn x),.string (Sn y)] w (.tuple #[.string (Sn (x*y)),.int .i64 0]):=by
 have sx:=hx.size
 have sy:=hy.size
 have h:=Mul_yes (Sn x) (Sn y) (sn_vld x) (sn_vld y) (by omega) (by omega) w htab
 rwa [sn_dval,sn_dval]at h
theorem nDivMod (x y:Nat)(hx:Fit x)(hy:Fit y)(h0:y≠0)(w:World)(htab:Tb w) :
 CR 188 #[.string (Sn x),.string (Sn y)] w (.tuple #[.string (Sn (x / y)),.string (Sn (x%y)),.int .i64 0]):=by
 have sx:=hx.size
 have sy:=hy.size
 have h:=DivMod_yes (Sn x) (Sn y) (sn_vld x) (sn_vld y) (by rw[sn_dval];exact h0) (by omega) (by omega) w htab
 rwa [sn_dval,sn_dval]at h
end Go.Proofs.YtcihodmmaclihaaGreatDoor
set_option maxRecDepth 100000
set_option maxHeartbeats 20000000
namespace Go.Proofs.YtcihodmmaclihaaGreatDoor
open Go.RowKit Go.Gb
theorem bcell {W w1:World}(hb:Below W.heap.size W w1):(∀ b o,b<W.heap.size→w1.cell? ⟨b,o,none⟩=W.cell? ⟨b,o,none⟩)∧(∀ b o,b<W.heap.size→w1.frozen? ⟨b,o,none⟩=W.frozen? ⟨b,o,none⟩) :=
 ⟨fun b o h=>hb.cell (p:=⟨b,o,none⟩) h,fun b o h=>hb.frozen (p:=⟨b,o,none⟩) h⟩
def Zz (w:World):Prop:=1<w.heap.size∧w.cell? ⟨1,0,none⟩=some (.int .i64 0)∧w.cell? ⟨1,1,none⟩=some (.string ⟨#[48]⟩)
theorem Zz.on {w w':World}(h:Zz w)(hb:Below w.heap.size w w'):Zz w' :=
 ⟨Nat.lt_of_lt_of_le h.1 hb.size,(hb.cell (p:=⟨1,0,none⟩) h.1).trans h.2.1,(hb.cell (p:=⟨1,1,none⟩) h.1).trans h.2.2⟩
structure La (w:World):Prop where
 tb:Tb w
 zz:Zz w
theorem La.on {w w':World}(h:La w)(hb:Below w.heap.size w w'):La w':=⟨h.tb.on hb,h.zz.on hb⟩
theorem sn_zero:Sn 0=⟨#[48]⟩:=by decide +kernel
theorem sn_one:Sn 1=⟨#[49]⟩:=by decide +kernel
theorem sn_list2 (n:Nat):(Sn n).toList=Lib.decDigits n:=by rw[toList_data,sn_list]
theorem sn_neq {x y:Nat}(h:x≠y):((Sn x).toList==(Sn y).toList)=false:=by
 rw[beq_eq_false_iff_ne,sn_list2,sn_list2]
 exact fun h2=>h (dec_inj h2)
theorem sn_neq0 {x:Nat}(h:x≠0):((Sn x).toList==[48])=false:=by
 rw[beq_eq_false_iff_ne,sn_list2]
 intro h2
 apply h
 rw[← dval_dec x,h2];rfl
def Zv (z:Int):Value:=.agg #[.int .i64 z.sign,.string (Sn z.natAbs)]
def Sz (z:Int):ByteArray:=if z<0 then ⟨(45 :: Lib.decDigits z.natAbs).toArray⟩ else Sn z.natAbs
theorem sz_neg {n:Nat}(h:n≠0):Sz (-(n:Int))=⟨(45 :: Lib.decDigits n).toArray⟩:=by
 unfold Sz;rw[if_pos (by omega),Int.natAbs_neg,Int.natAbs_natCast]
theorem sz_nat (n:Nat):Sz (n:Int)=Sn n:=by
 unfold Sz;rw[if_neg (by omega),Int.natAbs_natCast]
theorem zv_neg {n:Nat}(h:n≠0):Zv (-(n:Int))=.agg #[.int .i64 (-1),.string (Sn n)]:=by
 unfold Zv;rw[Int.natAbs_neg,Int.natAbs_natCast,Int.sign_neg,Int.sign_natCast_of_ne_zero h]
theorem zv_pos {n:Nat}(h:n≠0):Zv (n:Int)=.agg #[.int .i64 1,.string (Sn n)]:=by
 unfold Zv;rw[Int.natAbs_natCast,Int.sign_natCast_of_ne_zero h]
theorem zv_zero:Zv 0=.agg #[.int .i64 0,.string ⟨#[48]⟩]:=by
 unfold Zv;rw[← sn_zero];rfl
theorem int_cases (z:Int):(∃ n:Nat,n≠0∧z = -(n:Int))∨z=0∨∃ n:Nat,n≠0∧z=(n:Int):=by
 rcases Int.lt_trichotomy z 0 with h|h|h
 · left;exact⟨z.natAbs,by omega,by omega⟩
 · right;left;exact h
 · right;right;exact⟨z.natAbs,by omega,by omega⟩
def FitZ (z:Int):Prop:=Fit z.natAbs
theorem FitZ.neg {n:Nat}(h:FitZ (-(n:Int))):Fit n:=by unfold FitZ at h;rwa [Int.natAbs_neg,Int.natAbs_natCast]at h
theorem FitZ.nat {n:Nat}(h:FitZ (n:Int)):Fit n:=by unfold FitZ at h;rwa [Int.natAbs_natCast]at h
theorem Fit.neg {n:Nat}(h:Fit n):FitZ (-(n:Int)):=by unfold FitZ;rwa [Int.natAbs_neg,Int.natAbs_natCast]
theorem Fit.nat {n:Nat}(h:Fit n):FitZ (n:Int):=by unfold FitZ;rwa [Int.natAbs_natCast]
theorem fit0:Fit 0:=(show Sm 1 0 by simp[Sm]).mono (by decide)
theorem fit1:Fit 1:=(show Sm 1 1 by simp[Sm]).mono (by decide)
theorem negative_raw (s:Int)(b:ByteArray)(h1 : -1≤s)(h2:s≤1)(w:World) :
 CR 176 #[.agg #[.int .i64 s,.string b]] w (.agg #[.int .i64 (-s),.string b]):=by
 go_enter Tryz.func176,Tryz.ntmps176
 go_wp2
 refine bodyPost_ret (v:=.agg #[.int .i64 (-s),.string b]) (by simp[results,Tryz.results176,go_sem]) rfl ⟨rfl,?_⟩
 repeat (first|exact Below.refl _ _|refine Below.setCell ?_ (by simp) _|refine Below.alloc ?_ (by simp) _|refine Below.drew ?_)
theorem negative_any (z:Int)(w:World) :
 CR 176 #[Zv z] w (Zv (-z)):=by
 have h:=negative_raw z.sign (Sn z.natAbs) (by rcases Int.sign_trichotomy z with h|h|h<;>omega) (by rcases Int.sign_trichotomy z with h|h|h<;>omega) w
 unfold Zv
 rw[Int.sign_neg,Int.natAbs_neg]
 exact h
theorem string_any (z:Int)(hf:FitZ z)(w:World) :
 CR 111 #[Zv z] w (.string (Sz z)):=by
 rcases int_cases z with⟨n,hn,rfl⟩|rfl|⟨n,hn,rfl⟩
 · rw[zv_neg hn,sz_neg hn]
   have hadd:=run_string_add_sum (P:=Tryz.prog) (w.alloc (.cells #[.int .i64 (-1),.string (Sn n)] 109)) ⟨#[45]⟩ (Sn n) (by have:=hf.neg.size;have e:(⟨#[45]⟩:ByteArray).size=1:=rfl;omega)
   clear hn hf
   go_enter Tryz.func111,Tryz.ntmps111
   go_wp2
   go_ret
   refine⟨?_,(Below.refl _ _).alloc (Nat.le_refl _) _⟩
   have e:(⟨#[45]⟩:ByteArray)++Sn n=⟨(45 :: Lib.decDigits n).toArray⟩:=by
    apply ByteArray.ext
    apply Array.ext'
    simp[Sn]
   rw[e]
   rfl
 · rw[zv_zero,show Sz 0=⟨#[48]⟩from(sz_nat 0).trans sn_zero]
   go_enter Tryz.func111,Tryz.ntmps111
   go_wp2
   go_ret
   exact⟨rfl,(Below.refl _ _).alloc (Nat.le_refl _) _⟩
 · rw[zv_pos hn,sz_nat]
   go_enter Tryz.func111,Tryz.ntmps111
   go_wp2
   go_ret
   exact⟨rfl,(Below.refl _ _).alloc (Nat.le_refl _) _⟩
theorem signed_zero (s:Int)(w:World)(hz:Zz w) :
 CR 103 #[.int .i64 s,.string ⟨#[48]⟩] w (Zv 0):=by
 rw[zv_zero]
 obtain⟨h0,h1,h2⟩:=hz
 go_enter Tryz.func103,Tryz.ntmps103
 go_wp2
 refine bodyPost_ret (v:=.agg #[.int .i64 0,.string ⟨#[48]⟩]) (by simp[results,Tryz.results103,go_sem]) rfl ⟨rfl,?_⟩
 repeat (first|exact Below.refl _ _|refine Below.setCell ?_ (by simp) _|refine Below.alloc ?_ (by simp) _|refine Below.drew ?_)
theorem signed_some (s:Int)(n:Nat)(hn:n≠0)(w:World) :
 CR 103 #[.int .i64 s,.string (Sn n)] w (.agg #[.int .i64 s,.string (Sn n)]):=by
 have h0:=sn_neq0 hn
 clear hn
 go_enter Tryz.func103,Tryz.ntmps103
 go_wp2
 refine bodyPost_ret (v:=.agg #[.int .i64 s,.string (Sn n)]) (by simp[results,Tryz.results103,go_sem]) rfl ⟨rfl,?_⟩
 repeat (first|exact Below.refl _ _|refine Below.setCell ?_ (by simp) _|refine Below.alloc ?_ (by simp) _|refine Below.drew ?_)
theorem signed_any (s:Int)(n:Nat)(z:Int)(hz:z=s*(n:Int))(hs:s=1∨s = -1)(w:World)(hl:Zz w) :
 CR 103 #[.int .i64 s,.string (Sn n)] w (Zv z):=by
 by_cases hn:n=0
 · subst hn
   obtain rfl:z=0:=by rw[hz];simp
   rw[sn_zero]
   exact signed_zero s w hl
 · have h:=signed_some s n hn w
   rcases hs with rfl|rfl
   · rw[show z=(n:Int) by omega,zv_pos hn];exact h
   · rw[show z = -(n:Int) by omega,zv_neg hn];exact h
open Go.RowKit
abbrev CL (f : FuncId) (args : Array Value) (v : Value) : Prop := ∀ W, La W → Calls Tryz.prog f args W fun e w' => e = .returned v ∧ Below W.heap.size W w'
end Go.Proofs.YtcihodmmaclihaaGreatDoor
set_option maxRecDepth 100000
set_option maxHeartbeats 20000000
open Go.Lib (hid)
namespace Go.Proofs.YtcihodmmaclihaaGreatDoor
open Go.RowKit Go.Gb
def vldZ (l:List UInt8):Bool:=match l with
 | []=>false
 | c :: t=>if c=45 then vld t && !(t==[48]) else vld (c :: t)
def zval (l:List UInt8):Int:=match l with
 | []=>0
 | c :: t=>if c=45 then -(dval t:Int) else (dval (c :: t):Int)
theorem head_dig {n:Nat}:∃ c t,Lib.decDigits n=c :: t∧c≠45:=by
 cases h:Lib.decDigits n with
 | nil=>exact absurd h (dec_ne_nil n)
 | cons c t =>
   refine⟨c,t,rfl,?_⟩
   have h1:=dec_all n
   rw[h]at h1
   simp only[List.all_cons,Bool.and_eq_true]at h1
   have h2:=(isD_iff c).1 h1.1
   intro h3;subst h3;simp at h2
theorem zval_nat (n:Nat):zval (Lib.decDigits n)=(n:Int):=by
 obtain⟨c,t,h,hc⟩:=head_dig (n:=n)
 have hv:=dval_dec n
 rw[h]at hv ⊢
 unfold zval
 simp only[if_neg hc,hv]
theorem zval_neg (n:Nat):zval (45 :: Lib.decDigits n) = -(n:Int):=by
 unfold zval
 simp[dval_dec n]
theorem sz_of {a:ByteArray}(h:vldZ a.data.toList=true):a=Sz (zval a.data.toList):=by
 cases a with
 | mk d =>
   cases hl:d.toList with
   | nil=>simp[hl,vldZ]at h
   | cons c t =>
     simp only[hl]at h ⊢
     by_cases hc:c=45
     · subst hc
       simp only[vldZ,if_true,Bool.and_eq_true]at h
       obtain⟨h1,h2⟩:=h
       have hd:=dec_dval t h1
       have hne:dval t≠0:=by
        intro h0
        rw[h0,Lib.decDigits_one (by decide)]at hd
        rw[← hd]at h2
        simp at h2
       have e:zval (45 :: t) = -(dval t:Int):=by simp[zval]
       rw[e,sz_neg hne,hd,← hl]
     · simp only[vldZ,if_neg hc]at h
       have hd:=dec_dval (c :: t) h
       have e:zval (c :: t)=(dval (c :: t):Int):=by simp[zval,hc]
       rw[e,sz_nat]
       unfold Sn
       rw[hd,← hl]
theorem sz_val (z:Int):zval (Sz z).data.toList=z:=by
 rcases int_cases z with⟨n,hn,rfl⟩|rfl|⟨n,hn,rfl⟩
 · rw[sz_neg hn];simpa using zval_neg n
 · rw[show Sz 0=Sn 0 from sz_nat 0,sn_list];exact zval_nat 0
 · rw[sz_nat,sn_list];exact zval_nat n
theorem cut_neg (l:List UInt8)(w:World) :
 Calls Tryz.prog 101 #[.string ⟨(45 :: l).toArray⟩,.string ⟨#[45]⟩] w fun e w'=>e=.returned (.tuple #[.string ⟨l.toArray⟩,.bool true])∧w=w':=by
 refine(Tryz.strings_CutPrefix _ _ w).mono ?_
 rintro e w' ⟨rfl,rfl⟩
 refine⟨?_,rfl⟩
 simp[Lib.trimPrefix,Lib.hasPrefix,List.isPrefixOf]
theorem cut_not (s:ByteArray)(h:∀ t,s.data.toList≠45 :: t)(w:World) :
 Calls Tryz.prog 101 #[.string s,.string ⟨#[45]⟩] w fun e w'=>e=.returned (.tuple #[.string s,.bool false])∧w=w':=by
 refine(Tryz.strings_CutPrefix _ _ w).mono ?_
 rintro e w' ⟨rfl,rfl⟩
 refine⟨?_,rfl⟩
 have hp:Lib.hasPrefix s.data.toList [45]=false:=by
  unfold Lib.hasPrefix
  cases hl:s.data.toList with
  | nil=>rfl
  | cons c t =>
    have:¬ 45=c:=by intro hc;subst hc;exact h t hl
    simp[List.isPrefixOf,this]
 have e:(⟨#[45]⟩:ByteArray).data.toList=[45]:=rfl
 rw[e,hp]
 unfold Lib.trimPrefix
 rw[hp]
 cases s
 simp
def Zno:Value:=.agg #[.int .i64 0,.string ⟨#[]⟩]
theorem read_neg (n:Nat)(hn:n≠0)(hf:Fit n)(w:World) :
 CR 84 #[.string ⟨(45 :: Lib.decDigits n).toArray⟩] w (.tuple #[.agg #[.int .i64 (-1),.string (Sn n)],.bool true]):=by
 have HC:=hid (cut_neg (Lib.decDigits n))
 rw[show(⟨(Lib.decDigits n).toArray⟩:ByteArray)=Sn n from rfl]at HC
 have HV:=hid (nValid n hf)
 have h0:=sn_neq0 hn
 clear hn hf
 go_enter Tryz.func84,Tryz.ntmps84
 go_wp2_with fail
 refine(HC.out _).mono ?_
 rintro e w' ⟨rfl,rfl⟩
 go_wp2_with fail
 refine(HV.out _).mono ?_
 rintro e w' ⟨rfl,rfl⟩
 go_wp2
 refine bodyPost_ret (v:=.tuple #[.agg #[.int .i64 (-1),.string (Sn n)],.bool true]) (by simp[results,Tryz.results84,go_sem]) rfl ⟨rfl,?_⟩
 repeat (first|exact Below.refl _ _|refine Below.setCell ?_ (by simp) _|refine Below.alloc ?_ (by simp) _|refine Below.drew ?_)
theorem not45 {n:Nat}:∀ t,(Sn n).data.toList≠45 :: t:=by
 intro t h
 rw[sn_list]at h
 obtain⟨c,t',h2,hc⟩:=head_dig (n:=n)
 rw[h2]at h
 injection h with h3 h4
 exact hc h3
theorem read_nat (n:Nat)(hf:Fit n)(w:World)(hl:Zz w) :
 CR 84 #[.string (Sn n)] w (.tuple #[Zv (n:Int),.bool true]):=by
 have HC:=hid (cut_not (Sn n) not45)
 have HV:=hid (nValid n hf)
 have hb0:=(Below.refl w.heap.size w).alloc (Nat.le_refl _) (.cells #[.int .i64 0,.string ⟨#[]⟩] 109)
 have HS:=hid (signed_any 1 n (n:Int) (by omega) (Or.inl rfl) _ (hl.on hb0))
 unfold Zv at *
 generalize (n:Int).sign=s at *
 generalize Sn (n:Int).natAbs=b at *
 clear hf hl hb0
 go_enter Tryz.func84,Tryz.ntmps84
 go_wp2_with fail
 refine(HC.out _).mono ?_
 rintro e w' ⟨rfl,rfl⟩
 go_wp2_with fail
 refine(HV.out _).mono ?_
 rintro e w' ⟨rfl,rfl⟩
 go_wp2_with fail
 refine HS.out.mono ?_
 rintro e w1 ⟨rfl,hb1⟩
 have HB:=hid (((Below.refl w.heap.size w).alloc (Nat.le_refl _) (.cells #[.int .i64 0,.string ⟨#[]⟩] 109)).trans (hb1.mono (by simp)))
 obtain⟨hc,hf⟩:=bcell hb1
 have hz:w.heap.size<w1.heap.size:=by have:=hb1.size;simp at this;omega
 clear hb1
 go_wp2
 refine bodyPost_ret (v:=.tuple #[.agg #[.int .i64 s,.string b],.bool true]) (by simp[results,Tryz.results84,go_sem,hc]) rfl ⟨rfl,?_⟩
 repeat (first|exact HB.out|refine Below.setCell ?_ (by simp) _|refine Below.alloc ?_ (by simp) _|refine Below.drew ?_)
theorem read_yes (z:Int)(hf:FitZ z)(w:World)(hl:Zz w) :
 CR 84 #[.string (Sz z)] w (.tuple #[Zv z,.bool true]):=by
 rcases int_cases z with⟨n,hn,rfl⟩|rfl|⟨n,hn,rfl⟩
 · rw[sz_neg hn,zv_neg hn];exact read_neg n hn hf.neg w
 · rw[show Sz 0=Sn 0 from sz_nat 0];exact read_nat 0 fit0 w hl
 · rw[sz_nat];exact read_nat n hf.nat w hl
theorem read_bad1 (l:List UInt8)(h:vld l=false)(hs:l.length≤maxLen)(w:World) :
 CR 84 #[.string ⟨(45 :: l).toArray⟩] w (.tuple #[Zno,.bool false]):=by
 have HC:=hid (cut_neg l)
 have HV:=hid (Valid_no ⟨l.toArray⟩ (by simpa using h) (by simpa [ByteArray.size] using hs))
 clear h hs
 go_enter Tryz.func84,Tryz.ntmps84
 go_wp2_with fail
 refine(HC.out _).mono ?_
 rintro e w' ⟨rfl,rfl⟩
 go_wp2_with fail
 refine(HV.out _).mono ?_
 rintro e w' ⟨rfl,rfl⟩
 go_wp2
 refine bodyPost_ret (v:=.tuple #[Zno,.bool false]) (by simp[results,Tryz.results84,go_sem,Zno]) rfl ⟨rfl,?_⟩
 repeat (first|exact Below.refl _ _|refine Below.setCell ?_ (by simp) _|refine Below.alloc ?_ (by simp) _|refine Below.drew ?_)
theorem read_bad2 (w:World) :
 CR 84 #[.string ⟨(45 :: [48]).toArray⟩] w (.tuple #[Zno,.bool false]):=by
 have HC:=hid (cut_neg [48])
 have HV:=hid (Valid_yes ⟨#[48]⟩ (by decide +kernel) (by decide))
 go_enter Tryz.func84,Tryz.ntmps84
 go_wp2_with fail
 refine(HC.out _).mono ?_
 rintro e w' ⟨rfl,rfl⟩
 go_wp2_with fail
 refine(HV.out _).mono ?_
 rintro e w' ⟨rfl,rfl⟩
 go_wp2
 refine bodyPost_ret (v:=.tuple #[Zno,.bool false]) (by simp[results,Tryz.results84,go_sem,Zno]) rfl ⟨rfl,?_⟩
 repeat (first|exact Below.refl _ _|refine Below.setCell ?_ (by simp) _|refine Below.alloc ?_ (by simp) _|refine Below.drew ?_)
theorem read_bad3 (s:ByteArray)(h0:∀ t,s.data.toList≠45 :: t)(h:vld s.data.toList=false)(hs:s.size≤maxLen)(w:World) :
 CR 84 #[.string s] w (.tuple #[Zno,.bool false]):=by
 have HC:=hid (cut_not s h0)
 have HV:=hid (Valid_no s h hs)
 clear h hs h0
 go_enter Tryz.func84,Tryz.ntmps84
 go_wp2_with fail
 refine(HC.out _).mono ?_
 rintro e w' ⟨rfl,rfl⟩
 go_wp2_with fail
 refine(HV.out _).mono ?_
 rintro e w' ⟨rfl,rfl⟩
 go_wp2
 refine bodyPost_ret (v:=.tuple #[Zno,.bool false]) (by simp[results,Tryz.results84,go_sem,Zno]) rfl ⟨rfl,?_⟩
 repeat (first|exact Below.refl _ _|refine Below.setCell ?_ (by simp) _|refine Below.alloc ?_ (by simp) _|refine Below.drew ?_)
theorem read_no (s:ByteArray)(h:vldZ s.data.toList=false)(hs:s.size≤maxLen)(w:World) :
 CR 84 #[.string s] w (.tuple #[Zno,.bool false]):=by
 cases s with
 | mk d =>
   cases hl:d.toList with
   | nil =>
     refine read_bad3 ⟨d⟩ (fun t=>by simp[hl]) (by simp[hl,vld]) hs w
   | cons c t =>
     by_cases hc:c=45
     · subst hc
       have hd:d=(45 :: t).toArray:=by rw[← hl]
       have ht:t.length≤maxLen:=by
        have:d.size=t.length+1:=by rw[← Array.length_toList,hl];simp
        simp[ByteArray.size]at hs;omega
       simp only[hl,vldZ,if_true,Bool.and_eq_false_iff]at h
       rw[hd]
       rcases h with h|h
       · exact read_bad1 t h ht w
       · obtain rfl:t=[48]:=by simpa using h
         exact read_bad2 w
     · refine read_bad3 ⟨d⟩ (fun t'=>?_) ?_ hs w
       · simp only[hl];intro h2;injection h2 with h3 h4;exact hc h3
       · simp only[hl,vldZ,if_neg hc]at h ⊢;exact h
theorem zValid_yes (z:Int)(hf:FitZ z)(w:World)(hl:Zz w) :
 CR 63 #[.string (Sz z)] w (.bool true):=by
 have HR:=hid (read_yes z hf w hl)
 unfold Zv at HR
 generalize z.sign=s at *
 generalize Sn z.natAbs=b at *
 clear hf hl
 go_enter Tryz.func63,Tryz.ntmps63
 go_wp2_with fail
 refine HR.out.mono ?_
 rintro e w1 ⟨rfl,hb1⟩
 have HB:=hid hb1
 clear hb1
 go_wp2
 go_ret
 refine⟨rfl,?_⟩
 repeat (first|exact HB.out|refine Below.setCell ?_ (by have:=HB.out.size;simp;omega) _|refine Below.alloc ?_ (by have:=HB.out.size;simp;omega) _|refine Below.drew ?_)
theorem zValid_no (a:ByteArray)(h:vldZ a.data.toList=false)(hs:a.size≤maxLen)(w:World) :
 CR 63 #[.string a] w (.bool false):=by
 have HR:=hid (read_no a h hs w)
 unfold Zno at HR
 clear h hs
 go_enter Tryz.func63,Tryz.ntmps63
 go_wp2_with fail
 refine HR.out.mono ?_
 rintro e w1 ⟨rfl,hb1⟩
 have HB:=hid hb1
 clear hb1
 go_wp2
 go_ret
 refine⟨rfl,?_⟩
 repeat (first|exact HB.out|refine Below.setCell ?_ (by have:=HB.out.size;simp;omega) _|refine Below.alloc ?_ (by have:=HB.out.size;simp;omega) _|refine Below.drew ?_)
end Go.Proofs.YtcihodmmaclihaaGreatDoor
namespace Go.Gb
theorem mk_parts (num:Int)(den:Nat)(hd:den≠0):(mkRat num den).num=num / ((Nat.gcd num.natAbs den:Nat):Int)∧(mkRat num den).den=den / Nat.gcd num.natAbs den:=by
 rw[← Rat.normalize_eq_mkRat hd,Rat.normalize_eq hd]
 exact⟨rfl,rfl⟩
theorem add_parts (X Y:Rat)(g more rest:Nat)(num:Int)(hg:g=Nat.gcd X.den Y.den)(hm:more=Y.den / g)(hnum:num=X.num*(more:Int)+Y.num*((X.den / g:Nat):Int))(hr:rest=Nat.gcd num.natAbs g) :
 (X+Y).num=num / (rest:Int)∧(X+Y).den=X.den / rest*more:=by
 have hY:=Y.den_nz
 have hX:=X.den_nz
 have hg0:0<g:=by rw[hg];exact Nat.gcd_pos_of_pos_left _ (by omega)
 have dX:g∣X.den:=by rw[hg];exact Nat.gcd_dvd_left _ _
 have dY:g∣Y.den:=by rw[hg];exact Nat.gcd_dvd_right _ _
 have hr0:0<rest:=by rw[hr];exact Nat.gcd_pos_of_pos_right _ hg0
 have drg:rest∣g:=by rw[hr];exact Nat.gcd_dvd_right _ _
 have hden:X.den / g*Y.den / rest=X.den / rest*more:=by
  obtain⟨p,hp⟩:=dX
  obtain⟨q,hq⟩:=dY
  obtain⟨t,ht⟩:=drg
  rw[hm,hp,hq,Nat.mul_div_cancel_left _ hg0,Nat.mul_div_cancel_left _ hg0]
  have e3:p*(g*q)=rest*(t*p*q):=by rw[ht];ac_rfl
  have e4:g*p=rest*(t*p):=by rw[ht];ac_rfl
  rw[e3,e4,Nat.mul_div_cancel_left _ hr0,Nat.mul_div_cancel_left _ hr0]
 have h:X+Y=Rat.add X Y:=rfl
 rw[h]
 subst hg hm hr
 unfold Rat.add
 simp only
 split
 · rename_i h1
   rw[h1,Nat.div_one,Nat.div_one]at hnum
   simp only
   rw[h1,Nat.gcd_one_right,Nat.div_one,Nat.div_one]
   exact⟨by rw[hnum];simp,rfl⟩
 · rw[Rat.maybeNormalize_eq]
   simp only[Int.divExact_eq_ediv,← hnum]
   exact⟨trivial,hden⟩
theorem mul_parts (X Y:Rat)(g1 g2:Nat)(h1:g1=Nat.gcd X.num.natAbs Y.den)(h2:g2=Nat.gcd Y.num.natAbs X.den) :
 (X*Y).num=X.num / (g1:Int)*(Y.num / (g2:Int))∧(X*Y).den=X.den / g2*(Y.den / g1):=by
 subst h1 h2
 have h:X*Y=Rat.mul X Y:=rfl
 rw[h]
 unfold Rat.mul
 simp only[Int.divExact_eq_ediv,Nat.divExact_eq_div]
 exact⟨trivial,trivial⟩
theorem neg_parts (X:Rat):(-X).num = -X.num∧(-X).den=X.den:=⟨rfl,rfl⟩
theorem inv_pos {X:Rat}(h:0<X.num):(X⁻¹).num=(X.den:Int)∧((X⁻¹).den:Int)=X.num:=by
 have e:X⁻¹=Rat.inv X:=rfl
 rw[e]
 unfold Rat.inv
 rw[dif_neg (by omega),dif_pos h]
 exact⟨rfl,by simp only;omega⟩
theorem inv_neg' {X:Rat}(h:X.num<0):(X⁻¹).num = -(X.den:Int)∧((X⁻¹).den:Int) = -X.num:=by
 have e:X⁻¹=Rat.inv X:=rfl
 rw[e]
 unfold Rat.inv
 rw[dif_pos h]
 exact⟨rfl,by simp only;omega⟩
theorem add_small (X Y:Rat):X+Y=mkRat (X.num*(Y.den:Int)+Y.num*(X.den:Int)) (X.den*Y.den):=by
 have h1:=X.den_nz
 have h2:=Y.den_nz
 rw[Rat.add_def,Rat.normalize_eq_mkRat]
theorem mul_small (X Y:Rat):X*Y=mkRat (X.num*Y.num) (X.den*Y.den):=by
 rw[Rat.mul_def,Rat.normalize_eq_mkRat]
theorem sub_small (X Y:Rat):X-Y=mkRat (X.num*(Y.den:Int)-Y.num*(X.den:Int)) (X.den*Y.den):=by
 rw[Rat.sub_eq_add_neg,add_small]
 show mkRat (X.num*(Y.den:Int) + -Y.num*(X.den:Int)) (X.den*Y.den)=_
 rw[Int.neg_mul];congr 1
theorem div_small_pos (X Y:Rat)(h:0<Y.num):X / Y=mkRat (X.num*(Y.den:Int)) (X.den*Y.num.toNat):=by
 obtain⟨e1,e2⟩:=inv_pos h
 rw[Rat.div_def,mul_small,e1]
 congr 2
 omega
theorem div_small_neg (X Y:Rat)(h:Y.num<0):X / Y=mkRat (-(X.num*(Y.den:Int))) (X.den*(-Y.num).toNat):=by
 obtain⟨e1,e2⟩:=inv_neg' h
 rw[Rat.div_def,mul_small,e1,Int.mul_neg]
 congr 2
 omega
def cmpQ (x y:Rat):Int:=if x<y then -1 else if y<x then 1 else 0
theorem cmpQ_lt {x y:Rat}(h:x<y):cmpQ x y = -1:=by unfold cmpQ;rw[if_pos h]
theorem cmpQ_gt {x y:Rat}(h:y<x):cmpQ x y=1:=by
 unfold cmpQ;rw[if_neg (by grind),if_pos h]
theorem cmpQ_eq (x:Rat):cmpQ x x=0:=by
 unfold cmpQ;rw[if_neg (by grind),if_neg (by grind)]
theorem cmpQ_cross (X Y:Rat)(a b:Int)(ha:a=X.num*(Y.den:Int))(hb:b=Y.num*(X.den:Int)):cmpQ X Y=if a<b then -1 else if b<a then 1 else 0:=by
 unfold cmpQ
 simp only[Rat.lt_iff,← ha,← hb]
theorem cmpQ_cases (x y:Rat):(x<y∧cmpQ x y = -1)∨(x=y∧cmpQ x y=0)∨(y<x∧cmpQ x y=1):=by
 by_cases h1:x<y
 · exact Or.inl ⟨h1,cmpQ_lt h1⟩
 · by_cases h2:y<x
   · exact Or.inr (Or.inr ⟨h2,cmpQ_gt h2⟩)
   · have:x=y:=by grind
     subst this
     exact Or.inr (Or.inl ⟨rfl,cmpQ_eq x⟩)
end Go.Gb
