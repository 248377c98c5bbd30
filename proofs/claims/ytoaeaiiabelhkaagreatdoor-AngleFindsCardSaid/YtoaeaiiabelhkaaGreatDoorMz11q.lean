/- texts -/
import Derived.Test.YtoaeaiiabelhkaaGreatDoorMz10q
import Derived.Deep.RegionHeld3
import Derived.StillTailTactics
open Go.Proofs.Tryz
namespace Go.Proofs.YtoaeaiiabelhkaaGreatDoor
open Go.RowKit Go.Gb
def Sn (n:Nat):ByteArray:=⟨(Lib.decDigits n).toArray⟩
theorem cK (n:Nat):(Sn n).data.toList=Lib.decDigits n:=by simp[Sn]
theorem eG (n:Nat):vld (Sn n).data.toList=true:=by rw[cK];exact nG n
theorem cu (n:Nat):aI (Sn n).data.toList=n:=by rw[cK];exact gp n
theorem z6Y {a:ByteArray}(h:vld a.data.toList=true):a=Sn (aI a.data.toList):=by
 cases a with
 | mk d =>
   unfold Sn
   congr 1
   rw[jS _ h]
theorem z4k {x y:Nat}(h:Sn x=Sn y):x=y:=by rw[← cu x,← cu y,h]
def Sm (k n:Nat):Prop:=n<10^k
theorem Sm.mono {k l n:Nat}(h:Sm k n)(hkl:k≤l):Sm l n:=Nat.lt_of_lt_of_le h (Nat.pow_le_pow_right (by decide) hkl)
theorem Sm.le {k m n:Nat}(h:Sm k n)(hmn:m≤n):Sm k m:=Nat.lt_of_le_of_lt hmn h
theorem Sm.add {k m n:Nat}(hm:Sm k m)(hn:Sm k n):Sm (k+1) (m+n):=by
 unfold Sm at *;rw[Nat.pow_succ];omega
theorem Sm.mul {k l m n:Nat}(hm:Sm k m)(hn:Sm l n):Sm (k+l) (m*n):=by
 unfold Sm at *
 rw[Nat.pow_add];rcases Nat.eq_zero_or_pos n with h|h
 · rw[h,Nat.mul_zero];exact Nat.mul_pos (Nat.pow_pos (by decide)) (Nat.pow_pos (by decide))
 · exact Nat.mul_lt_mul_of_lt_of_le hm (Nat.le_of_lt hn) (Nat.pow_pos (by decide))
theorem Sm.of {a:ByteArray}(h:vld a.data.toList=true){k:Nat}(hl:a.size≤k):Sm k (aI a.data.toList):=by
 have h1:=gT _ (bH h);exact Nat.lt_of_lt_of_le h1 (Nat.pow_le_pow_right (by decide) (by rw[aF];exact hl))
theorem rU:∀ (k n:Nat),Sm k n→0<k→(Lib.decDigits n).length≤k
 | 0,_,_,h=>absurd h (by omega)
 | 1,n,h,_=>by
   have:n<10:=by simpa [Sm] using h
   rw[Lib.decDigits,dif_pos this];simp
 | k+2,n,h,_=>by
   by_cases h10:n<10
   · rw[Lib.decDigits,dif_pos h10];simp
   · rw[Lib.decDigits,dif_neg h10,List.length_append]
     have:=rU (k+1) (n / 10) (by unfold Sm at *;rw[Nat.pow_succ]at h;omega) (by omega);simp;omega
theorem iD {k n:Nat}(h:Sm k n)(hk:0<k):(Sn n).size≤k:=by
 have:=rU k n h hk;rw[← cK,aF]at this;exact this
theorem gL {k n:Nat}(h:Sm k n)(hk:0<k):(ae n).length≤k:=by
 have h1:=dD (bH (eG n)) k (by rw[aF];have:=iD h hk;omega);rwa [cu]at h1
def Fit (n:Nat):Prop:=Sm 2000 n
theorem Fit.size {n:Nat}(h:Fit n):(Sn n).size≤2000:=iD h (by decide)
theorem Fit.max {n:Nat}(h:Fit n):(Sn n).size≤maxLen:=by have:=h.size;unfold maxLen;omega
theorem z4z (x:Nat)(hx:Fit x)(w:World) :
 Calls Tryz.prog 148 #[.string (Sn x)] w fun e w'=>e=.returned (.bool true)∧w=w' :=
 bT (Sn x) (eG x) hx.max w
theorem ry (x y:Nat)(hx:Fit x)(hy:Fit y)(w:World) :
 Calls Tryz.prog 190 #[.string (Sn x),.string (Sn y)] w fun e w'=>e=.returned (.tuple #[.int .i64 (cmpN x y),.int .i64 0])∧w=w':=by
 have h:=xw (Sn x) (Sn y) (eG x) (eG y) hx.max hy.max w;rwa [cu,cu]at h
theorem nAdd (x y:Nat)(hx:Fit x)(hy:Fit y)(w:World)(htab:Tb w) :
 CR 237 #[.string (Sn x),.string (Sn y)] w (.tuple #[.string (Sn (x+y)),.int .i64 0]):=by
 have sx:=hx.size;have sy:=hy.size;by_cases hs:(Sn x).size≤18∧(Sn y).size≤18
 · have h:=z2o (Sn x) (Sn y) (eG x) (eG y) hs.1 hs.2 w htab
   rwa [cu,cu]at h
 · have hxy:x≠0∨y≠0:=by
    rcases Nat.eq_zero_or_pos x with h0|h0
    · rcases Nat.eq_zero_or_pos y with h1|h1
      · exfalso
        subst h0 h1;have:(Sn 0).size≤1:=iD (k:=1) (by simp[Sm]) (by decide);omega
      · right;omega
    · left;omega
   have h:=z4d (Sn x) (Sn y) (eG x) (eG y) (by omega) (by omega) (by omega) (by
    rw[cu,cu]
    exact z5I x y hxy (Nat.le_trans (gL hx (by decide)) (by decide)) (Nat.le_trans (gL hy (by decide)) (by decide))) w htab
   rwa [cu,cu]at h
theorem nSub (x y:Nat)(hx:Fit x)(hyx:y≤x)(w:World)(htab:Tb w) :
 CR 236 #[.string (Sn x),.string (Sn y)] w (.tuple #[.string (Sn (x-y)),.int .i64 0]):=by
 have sx:=hx.size;have sy:=Fit.size (Sm.le hx hyx);have h:=z5N (Sn x) (Sn y) (eG x) (eG y) (by rw[cu,cu];exact hyx) (by omega) (by omega) w htab;rwa [cu,cu]at h
theorem nMul (x y:Nat)(hx:Fit x)(hy:Fit y)(w:World)(htab:Tb w) :
 CR 191 #[.string (Sn x),.string (Sn y)] w (.tuple #[.string (Sn (x*y)),.int .i64 0]):=by
 have sx:=hx.size;have sy:=hy.size;have h:=z5O (Sn x) (Sn y) (eG x) (eG y) (by omega) (by omega) w htab;rwa [cu,cu]at h
theorem z5h (x y:Nat)(hx:Fit x)(hy:Fit y)(h0:y≠0)(w:World)(htab:Tb w) :
 CR 235 #[.string (Sn x),.string (Sn y)] w (.tuple #[.string (Sn (x / y)),.string (Sn (x%y)),.int .i64 0]):=by
 have sx:=hx.size;have sy:=hy.size;have h:=z0a (Sn x) (Sn y) (eG x) (eG y) (by rw[cu];exact h0) (by omega) (by omega) w htab;rwa [cu,cu]at h
set_option maxRecDepth 100000
set_option maxHeartbeats 20000000
theorem fB {W w1:World}(hb:Below W.heap.size W w1):(∀ b o,b<W.heap.size→w1.cell? ⟨b,o,none⟩=W.cell? ⟨b,o,none⟩)∧(∀ b o,b<W.heap.size→w1.frozen? ⟨b,o,none⟩=W.frozen? ⟨b,o,none⟩) :=
 ⟨fun b o h=>hb.cell (p:=⟨b,o,none⟩) h,fun b o h=>hb.frozen (p:=⟨b,o,none⟩) h⟩
def Zz (w:World):Prop:=1<w.heap.size∧w.cell? ⟨1,0,none⟩=some (.int .i64 0)∧w.cell? ⟨1,1,none⟩=some (.string ⟨#[48]⟩)
theorem Zz.on {w w':World}(h:Zz w)(hb:Below w.heap.size w w'):Zz w' :=
 ⟨Nat.lt_of_lt_of_le h.1 hb.size,(hb.cell (p:=⟨1,0,none⟩) h.1).trans h.2.1,(hb.cell (p:=⟨1,1,none⟩) h.1).trans h.2.2⟩
structure La (w:World):Prop where
 tb:Tb w
 zz:Zz w
theorem La.on {w w':World}(h:La w)(hb:Below w.heap.size w w'):La w':=⟨h.tb.on hb,h.zz.on hb⟩
theorem vC:Sn 0=⟨#[48]⟩:=by decide +kernel
theorem z6f:Sn 1=⟨#[49]⟩:=by decide +kernel
theorem qM (n:Nat):(Sn n).toList=Lib.decDigits n:=by rw[toList_data,cK]
theorem z0B {x y:Nat}(h:x≠y):((Sn x).toList==(Sn y).toList)=false:=by
 rw[beq_eq_false_iff_ne,qM,qM];exact fun h2=>h (z5t h2)
theorem z0A {x:Nat}(h:x≠0):((Sn x).toList==[48])=false:=by
 rw[beq_eq_false_iff_ne,qM];intro h2;apply h
 rw[← gp x,h2];rfl
def Zv (z:Int):Value:=.agg #[.int .i64 z.sign,.string (Sn z.natAbs)]
def Sz (z:Int):ByteArray:=if z<0 then ⟨(45 :: Lib.decDigits z.natAbs).toArray⟩ else Sn z.natAbs
theorem jq {n:Nat}(h:n≠0):Sz (-(n:Int))=⟨(45 :: Lib.decDigits n).toArray⟩:=by
 unfold Sz;rw[if_pos (by omega),Int.natAbs_neg,Int.natAbs_natCast]
theorem dU (n:Nat):Sz (n:Int)=Sn n:=by
 unfold Sz;rw[if_neg (by omega),Int.natAbs_natCast]
theorem gI {n:Nat}(h:n≠0):Zv (-(n:Int))=.agg #[.int .i64 (-1),.string (Sn n)]:=by
 unfold Zv;rw[Int.natAbs_neg,Int.natAbs_natCast,Int.sign_neg,Int.sign_natCast_of_ne_zero h]
theorem gH {n:Nat}(h:n≠0):Zv (n:Int)=.agg #[.int .i64 1,.string (Sn n)]:=by
 unfold Zv;rw[Int.natAbs_natCast,Int.sign_natCast_of_ne_zero h]
theorem gG:Zv 0=.agg #[.int .i64 0,.string ⟨#[48]⟩]:=by
 unfold Zv;rw[← vC];rfl
theorem bZ (z:Int):(∃ n:Nat,n≠0∧z = -(n:Int))∨z=0∨∃ n:Nat,n≠0∧z=(n:Int):=by
 rcases Int.lt_trichotomy z 0 with h|h|h
 · left;exact⟨z.natAbs,by omega,by omega⟩
 · right;left;exact h
 · right;right;exact⟨z.natAbs,by omega,by omega⟩
def FitZ (z:Int):Prop:=Fit z.natAbs
theorem FitZ.neg {n:Nat}(h:FitZ (-(n:Int))):Fit n:=by unfold FitZ at h;rwa [Int.natAbs_neg,Int.natAbs_natCast]at h
theorem FitZ.nat {n:Nat}(h:FitZ (n:Int)):Fit n:=by unfold FitZ at h;rwa [Int.natAbs_natCast]at h
theorem Fit.neg {n:Nat}(h:Fit n):FitZ (-(n:Int)):=by unfold FitZ;rwa [Int.natAbs_neg,Int.natAbs_natCast]
theorem Fit.nat {n:Nat}(h:Fit n):FitZ (n:Int):=by unfold FitZ;rwa [Int.natAbs_natCast]
theorem fit0:Fit 0:=(show Sm 1 0 by simp[Sm]).mono (by decide)
theorem fit1:Fit 1:=(show Sm 1 1 by simp[Sm]).mono (by decide)
theorem fK (s:Int)(b:ByteArray)(h1 : -1≤s)(h2:s≤1)(w:World) :
 CR 216 #[.agg #[.int .i64 s,.string b]] w (.agg #[.int .i64 (-s),.string b]):=by
 go_enter func216,ntmps216
 go_wp2;refine bodyPost_ret (v:=.agg #[.int .i64 (-s),.string b]) (by simp[results,results216,go_sem]) rfl ⟨rfl,?_⟩;repeat (first|exact Below.refl _ _|refine Below.setCell ?_ (by simp) _|refine Below.alloc ?_ (by simp) _|refine Below.drew ?_)
theorem il (z:Int)(w:World) :
 CR 216 #[Zv z] w (Zv (-z)):=by
 have h:=fK z.sign (Sn z.natAbs) (by rcases Int.sign_trichotomy z with h|h|h<;>omega) (by rcases Int.sign_trichotomy z with h|h|h<;>omega) w;unfold Zv
 rw[Int.sign_neg,Int.natAbs_neg];exact h
theorem iL (z:Int)(hf:FitZ z)(w:World) :
 CR 182 #[Zv z] w (.string (Sz z)):=by
 rcases bZ z with⟨n,hn,rfl⟩|rfl|⟨n,hn,rfl⟩
 · rw[gI hn,jq hn]
   have hadd:=run_string_add_sum (P:=Tryz.prog) (w.alloc (.cells #[.int .i64 (-1),.string (Sn n)] 137)) ⟨#[45]⟩ (Sn n) (by have:=hf.neg.size;have e:(⟨#[45]⟩:ByteArray).size=1:=rfl;omega);clear hn hf;go_enter func182,ntmps182
   go_wp2;go_ret
   refine⟨?_,(Below.refl _ _).alloc (Nat.le_refl _) _⟩
   have e:(⟨#[45]⟩:ByteArray)++Sn n=⟨(45 :: Lib.decDigits n).toArray⟩:=by
    apply ByteArray.ext
    apply Array.ext'
    simp[Sn]
   rw[e];rfl
 · rw[gG,show Sz 0=⟨#[48]⟩from(dU 0).trans vC]
   go_enter func182,ntmps182
   go_wp2;go_ret
   exact⟨rfl,(Below.refl _ _).alloc (Nat.le_refl _) _⟩
 · rw[gH hn,dU]
   go_enter func182,ntmps182
   go_wp2;go_ret
   exact⟨rfl,(Below.refl _ _).alloc (Nat.le_refl _) _⟩
theorem vF (s:Int)(w:World)(hz:Zz w) :
 CR 149 #[.int .i64 s,.string ⟨#[48]⟩] w (Zv 0):=by
 rw[gG];obtain⟨h0,h1,h2⟩:=hz;go_enter func149,ntmps149
 go_wp2;refine bodyPost_ret (v:=.agg #[.int .i64 0,.string ⟨#[48]⟩]) (by simp[results,results149,go_sem]) rfl ⟨rfl,?_⟩;repeat (first|exact Below.refl _ _|refine Below.setCell ?_ (by simp) _|refine Below.alloc ?_ (by simp) _|refine Below.drew ?_)
theorem vG (s:Int)(n:Nat)(hn:n≠0)(w:World) :
 CR 149 #[.int .i64 s,.string (Sn n)] w (.agg #[.int .i64 s,.string (Sn n)]):=by
 have h0:=z0A hn;clear hn;go_enter func149,ntmps149
 go_wp2;refine bodyPost_ret (v:=.agg #[.int .i64 s,.string (Sn n)]) (by simp[results,results149,go_sem]) rfl ⟨rfl,?_⟩;repeat (first|exact Below.refl _ _|refine Below.setCell ?_ (by simp) _|refine Below.alloc ?_ (by simp) _|refine Below.drew ?_)
theorem lI (s:Int)(n:Nat)(z:Int)(hz:z=s*(n:Int))(hs:s=1∨s = -1)(w:World)(hl:Zz w) :
 CR 149 #[.int .i64 s,.string (Sn n)] w (Zv z):=by
 by_cases hn:n=0
 · subst hn
   obtain rfl:z=0:=by rw[hz];simp
   rw[vC];exact vF s w hl
 · have h:=vG s n hn w
   rcases hs with rfl|rfl
   · rw[show z=(n:Int) by omega,gH hn];exact h
   · rw[show z = -(n:Int) by omega,gI hn];exact h
open Go.Lib (hid)
def vldZ (l:List UInt8):Bool:=match l with
 | []=>false
 | c :: t=>if c=45 then vld t && !(t==[48]) else vld (c :: t)
def zval (l:List UInt8):Int:=match l with
 | []=>0
 | c :: t=>if c=45 then -(aI t:Int) else (aI (c :: t):Int)
theorem jP {n:Nat}:∃ c t,Lib.decDigits n=c :: t∧c≠45:=by
 cases h:Lib.decDigits n with
 | nil=>exact absurd h (iV n)
 | cons c t =>
   refine⟨c,t,rfl,?_⟩;have h1:=je n;rw[h]at h1;simp only[List.all_cons,Bool.and_eq_true]at h1;have h2:=(fw c).1 h1.1;intro h3;subst h3;simp at h2
theorem qJ (n:Nat):vldZ (Lib.decDigits n)=true:=by
 obtain⟨c,t,h,hc⟩:=jP (n:=n);have hv:=nG n;rw[h]at hv ⊢;unfold vldZ
 simp only[if_neg hc,hv]
theorem mV (n:Nat):zval (Lib.decDigits n)=(n:Int):=by
 obtain⟨c,t,h,hc⟩:=jP (n:=n);have hv:=gp n;rw[h]at hv ⊢;unfold zval
 simp only[if_neg hc,hv]
theorem z7p {n:Nat}(h:Lib.decDigits n=[48]):n=0:=by rw[← gp n,h];rfl
theorem z2y {n:Nat}(hn:n≠0):vldZ (45 :: Lib.decDigits n)=true:=by
 have h:(Lib.decDigits n==[48])=false:=beq_eq_false_iff_ne.2 (fun h=>hn (z7p h));unfold vldZ
 simp[nG n,h]
theorem z2p (n:Nat):zval (45 :: Lib.decDigits n) = -(n:Int):=by
 unfold zval
 simp[gp n]
theorem z0q {a:ByteArray}(h:vldZ a.data.toList=true):a=Sz (zval a.data.toList):=by
 cases a with
 | mk d =>
   cases hl:d.toList with
   | nil=>simp[hl,vldZ]at h
   | cons c t =>
     simp only[hl]at h ⊢;by_cases hc:c=45
     · subst hc
       simp only[vldZ,if_true,Bool.and_eq_true]at h;obtain⟨h1,h2⟩:=h;have hd:=jS t h1
       have hne:aI t≠0:=by
        intro h0;rw[h0,Lib.decDigits_one (by decide)]at hd;rw[← hd]at h2;simp at h2
       have e:zval (45 :: t) = -(aI t:Int):=by simp[zval]
       rw[e,jq hne,hd,← hl]
     · simp only[vldZ,if_neg hc]at h
       have hd:=jS (c :: t) h;have e:zval (c :: t)=(aI (c :: t):Int):=by simp[zval,hc]
       rw[e,dU];unfold Sn
       rw[hd,← hl]
theorem z6b (z:Int):vldZ (Sz z).data.toList=true:=by
 rcases bZ z with⟨n,hn,rfl⟩|rfl|⟨n,hn,rfl⟩
 · rw[jq hn];simpa using z2y hn
 · rw[show Sz 0=Sn 0 from dU 0,cK];exact qJ 0
 · rw[dU,cK];exact qJ n
theorem xG (z:Int):zval (Sz z).data.toList=z:=by
 rcases bZ z with⟨n,hn,rfl⟩|rfl|⟨n,hn,rfl⟩
 · rw[jq hn];simpa using z2p n
 · rw[show Sz 0=Sn 0 from dU 0,cK];exact mV 0
 · rw[dU,cK];exact mV n
theorem wJ (l:List UInt8)(w:World) :
 Calls Tryz.prog 147 #[.string ⟨(45 :: l).toArray⟩,.string ⟨#[45]⟩] w fun e w'=>e=.returned (.tuple #[.string ⟨l.toArray⟩,.bool true])∧w=w':=by
 refine(Tryz.strings_CutPrefix _ _ w).mono ?_;rintro e w' ⟨rfl,rfl⟩;refine⟨?_,rfl⟩;simp[Lib.trimPrefix,Lib.hasPrefix,List.isPrefixOf]
theorem z1L (s:ByteArray)(h:∀ t,s.data.toList≠45 :: t)(w:World) :
 Calls Tryz.prog 147 #[.string s,.string ⟨#[45]⟩] w fun e w'=>e=.returned (.tuple #[.string s,.bool false])∧w=w':=by
 refine(Tryz.strings_CutPrefix _ _ w).mono ?_;rintro e w' ⟨rfl,rfl⟩;refine⟨?_,rfl⟩
 have hp:Lib.hasPrefix s.data.toList [45]=false:=by
  unfold Lib.hasPrefix
  cases hl:s.data.toList with
  | nil=>rfl
  | cons c t =>
    have:¬ 45=c:=by intro hc;subst hc;exact h t hl
    simp[List.isPrefixOf,this]
 have e:(⟨#[45]⟩:ByteArray).data.toList=[45]:=rfl;rw[e,hp];unfold Lib.trimPrefix
 rw[hp];cases s
 simp
def Zno:Value:=.agg #[.int .i64 0,.string ⟨#[]⟩]
theorem z2M (n:Nat)(hn:n≠0)(hf:Fit n)(w:World) :
 CR 121 #[.string ⟨(45 :: Lib.decDigits n).toArray⟩] w (.tuple #[.agg #[.int .i64 (-1),.string (Sn n)],.bool true]):=by
 have HC:=hid (wJ (Lib.decDigits n));rw[show(⟨(Lib.decDigits n).toArray⟩:ByteArray)=Sn n from rfl]at HC;have HV:=hid (z4z n hf);have h0:=z0A hn;clear hn hf;go_enter func121,ntmps121
 go_wp2_with fail
 refine(HC.o _).mono ?_;rintro e w' ⟨rfl,rfl⟩;go_wp2_with fail
 refine(HV.o _).mono ?_;rintro e w' ⟨rfl,rfl⟩;go_wp2;refine bodyPost_ret (v:=.tuple #[.agg #[.int .i64 (-1),.string (Sn n)],.bool true]) (by simp[results,results121,go_sem]) rfl ⟨rfl,?_⟩;repeat (first|exact Below.refl _ _|refine Below.setCell ?_ (by simp) _|refine Below.alloc ?_ (by simp) _|refine Below.drew ?_)
theorem z7h {n:Nat}:∀ t,(Sn n).data.toList≠45 :: t:=by
 intro t h;rw[cK]at h;obtain⟨c,t',h2,hc⟩:=jP (n:=n);rw[h2]at h;injection h with h3 h4
 exact hc h3
theorem xU (n:Nat)(hf:Fit n)(w:World)(hl:Zz w) :
 CR 121 #[.string (Sn n)] w (.tuple #[Zv (n:Int),.bool true]):=by
 have HC:=hid (z1L (Sn n) z7h);have HV:=hid (z4z n hf);have hb0:=(Below.refl w.heap.size w).alloc (Nat.le_refl _) (.cells #[.int .i64 0,.string ⟨#[]⟩] 137);have HS:=hid (lI 1 n (n:Int) (by omega) (Or.inl rfl) _ (hl.on hb0));unfold Zv at *
 generalize (n:Int).sign=s at *;generalize Sn (n:Int).natAbs=b at *;clear hf hl hb0;go_enter func121,ntmps121
 go_wp2_with fail
 refine(HC.o _).mono ?_;rintro e w' ⟨rfl,rfl⟩;go_wp2_with fail
 refine(HV.o _).mono ?_;rintro e w' ⟨rfl,rfl⟩;go_wp2_with fail
 refine HS.o.mono ?_;rintro e w1 ⟨rfl,hb1⟩;have HB:=hid (((Below.refl w.heap.size w).alloc (Nat.le_refl _) (.cells #[.int .i64 0,.string ⟨#[]⟩] 137)).trans (hb1.mono (by simp)));obtain⟨hc,hf⟩:=fB hb1;have hz:w.heap.size<w1.heap.size:=by have:=hb1.size;simp at this;omega
 clear hb1;go_wp2;refine bodyPost_ret (v:=.tuple #[.agg #[.int .i64 s,.string b],.bool true]) (by simp[results,results121,go_sem,hc]) rfl ⟨rfl,?_⟩;repeat (first|exact HB.o|refine Below.setCell ?_ (by simp) _|refine Below.alloc ?_ (by simp) _|refine Below.drew ?_)
theorem kN (z:Int)(hf:FitZ z)(w:World)(hl:Zz w) :
 CR 121 #[.string (Sz z)] w (.tuple #[Zv z,.bool true]):=by
 rcases bZ z with⟨n,hn,rfl⟩|rfl|⟨n,hn,rfl⟩
 · rw[jq hn,gI hn];exact z2M n hn hf.neg w
 · rw[show Sz 0=Sn 0 from dU 0];exact xU 0 fit0 w hl
 · rw[dU];exact xU n hf.nat w hl
theorem z0S (l:List UInt8)(h:vld l=false)(hs:l.length≤maxLen)(w:World) :
 CR 121 #[.string ⟨(45 :: l).toArray⟩] w (.tuple #[Zno,.bool false]):=by
 have HC:=hid (wJ l);have HV:=hid (yQ ⟨l.toArray⟩ (by simpa using h) (by simpa [ByteArray.size] using hs));clear h hs;go_enter func121,ntmps121
 go_wp2_with fail
 refine(HC.o _).mono ?_;rintro e w' ⟨rfl,rfl⟩;go_wp2_with fail
 refine(HV.o _).mono ?_;rintro e w' ⟨rfl,rfl⟩;go_wp2;refine bodyPost_ret (v:=.tuple #[Zno,.bool false]) (by simp[results,results121,go_sem,Zno]) rfl ⟨rfl,?_⟩;repeat (first|exact Below.refl _ _|refine Below.setCell ?_ (by simp) _|refine Below.alloc ?_ (by simp) _|refine Below.drew ?_)
theorem z0R (w:World) :
 CR 121 #[.string ⟨(45 :: [48]).toArray⟩] w (.tuple #[Zno,.bool false]):=by
 have HC:=hid (wJ [48]);have HV:=hid (bT ⟨#[48]⟩ (by decide +kernel) (by decide));go_enter func121,ntmps121
 go_wp2_with fail
 refine(HC.o _).mono ?_;rintro e w' ⟨rfl,rfl⟩;go_wp2_with fail
 refine(HV.o _).mono ?_;rintro e w' ⟨rfl,rfl⟩;go_wp2;refine bodyPost_ret (v:=.tuple #[Zno,.bool false]) (by simp[results,results121,go_sem,Zno]) rfl ⟨rfl,?_⟩;repeat (first|exact Below.refl _ _|refine Below.setCell ?_ (by simp) _|refine Below.alloc ?_ (by simp) _|refine Below.drew ?_)
theorem tV (s:ByteArray)(h0:∀ t,s.data.toList≠45 :: t)(h:vld s.data.toList=false)(hs:s.size≤maxLen)(w:World) :
 CR 121 #[.string s] w (.tuple #[Zno,.bool false]):=by
 have HC:=hid (z1L s h0);have HV:=hid (yQ s h hs);clear h hs h0;go_enter func121,ntmps121
 go_wp2_with fail
 refine(HC.o _).mono ?_;rintro e w' ⟨rfl,rfl⟩;go_wp2_with fail
 refine(HV.o _).mono ?_;rintro e w' ⟨rfl,rfl⟩;go_wp2;refine bodyPost_ret (v:=.tuple #[Zno,.bool false]) (by simp[results,results121,go_sem,Zno]) rfl ⟨rfl,?_⟩;repeat (first|exact Below.refl _ _|refine Below.setCell ?_ (by simp) _|refine Below.alloc ?_ (by simp) _|refine Below.drew ?_)
theorem z5a (s:ByteArray)(h:vldZ s.data.toList=false)(hs:s.size≤maxLen)(w:World) :
 CR 121 #[.string s] w (.tuple #[Zno,.bool false]):=by
 cases s with
 | mk d =>
   cases hl:d.toList with
   | nil =>
     refine tV ⟨d⟩ (fun t=>by simp[hl]) (by simp[hl,vld]) hs w
   | cons c t =>
     by_cases hc:c=45
     · subst hc
       have hd:d=(45 :: t).toArray:=by rw[← hl]
       have ht:t.length≤maxLen:=by
        have:d.size=t.length+1:=by rw[← Array.length_toList,hl];simp
        simp[ByteArray.size]at hs;omega
       simp only[hl,vldZ,if_true,Bool.and_eq_false_iff]at h;rw[hd];rcases h with h|h
       · exact z0S t h ht w
       · obtain rfl:t=[48]:=by simpa using h
         exact z0R w
     · refine tV ⟨d⟩ (fun t'=>?_) ?_ hs w
       · simp only[hl];intro h2;injection h2 with h3 h4;exact hc h3
       · simp only[hl,vldZ,if_neg hc]at h ⊢;exact h
theorem dQ (z:Int)(hf:FitZ z)(w:World)(hl:Zz w) :
 CR 77 #[.string (Sz z)] w (.bool true):=by
 have HR:=hid (kN z hf w hl);unfold Zv at HR
 generalize z.sign=s at *;generalize Sn z.natAbs=b at *;clear hf hl;go_enter func77,ntmps77
 go_wp2_with fail
 refine HR.o.mono ?_;rintro e w1 ⟨rfl,hb1⟩;have HB:=hid hb1;clear hb1;go_wp2;go_ret
 refine⟨rfl,?_⟩;repeat (first|exact HB.o|refine Below.setCell ?_ (by have:=HB.o.size;simp;omega) _|refine Below.alloc ?_ (by have:=HB.o.size;simp;omega) _|refine Below.drew ?_)
theorem nA (a:ByteArray)(h:vldZ a.data.toList=false)(hs:a.size≤maxLen)(w:World) :
 CR 77 #[.string a] w (.bool false):=by
 have HR:=hid (z5a a h hs w);unfold Zno at HR
 clear h hs;go_enter func77,ntmps77
 go_wp2_with fail
 refine HR.o.mono ?_;rintro e w1 ⟨rfl,hb1⟩;have HB:=hid hb1;clear hb1;go_wp2;go_ret
 refine⟨rfl,?_⟩;repeat (first|exact HB.o|refine Below.setCell ?_ (by have:=HB.o.size;simp;omega) _|refine Below.alloc ?_ (by have:=HB.o.size;simp;omega) _|refine Below.drew ?_)
end Go.Proofs.YtoaeaiiabelhkaaGreatDoor
set_option maxRecDepth 100000
set_option maxHeartbeats 20000000
open Go.Lib (hid)
namespace Go.Proofs.YtoaeaiiabelhkaaGreatDoor
open Go.RowKit Go.Gb
def Nb (w:World) (g:Nat) (s:Int) (b:ByteArray):Prop:=w.heap[g]? = some (.cells #[.int .i64 s,.string b] 137 (0,0))
theorem Nb.lt {w:World}{g:Nat}{s:Int}{b:ByteArray}(h:Nb w g s b):g<w.heap.size:=(Array.getElem?_eq_some_iff.1 h).1
theorem Nb.below {w w':World}{g:Nat}{s:Int}{b:ByteArray}(h:Nb w g s b)(hb:Below w.heap.size w w'):Nb w' g s b:=by
 unfold Nb at *
 rw[hb.block g (Array.getElem?_eq_some_iff.1 h).1];exact h
theorem Nb.new (w:World)(s:Int)(b:ByteArray):Nb (w.alloc (.cells #[.int .i64 s,.string b] 137)) w.heap.size s b:=by
 unfold Nb;rw[heap_alloc_new]
theorem Nb.alloc {w:World}{g:Nat}{s:Int}{b:ByteArray}(h:Nb w g s b)(o:Obj):Nb (w.alloc o) g s b:=h.below ((Below.refl _ _).alloc (Nat.le_refl _) o)
theorem Nb.c0 {w:World}{g:Nat}{s:Int}{b:ByteArray}(h:Nb w g s b):w.cell? ⟨g,0,none⟩=some (.int .i64 s):=by
 unfold Nb at h;simp[World.cell?,h]
theorem Nb.c1 {w:World}{g:Nat}{s:Int}{b:ByteArray}(h:Nb w g s b):w.cell? ⟨g,1,none⟩=some (.string b):=by
 unfold Nb at h;simp[World.cell?,h]
theorem Nb.f {w:World}{g:Nat}{s:Int}{b:ByteArray}(h:Nb w g s b)(i:Nat):w.frozen? ⟨g,i,none⟩=false:=by
 unfold Nb at h;simp only[World.frozen?,h];simp
theorem qY (a1 a2:ByteArray)(s t:Int)(b c:ByteArray)(o1 o2:Bool)(w:World)
 (h1:∀ W,Below w.heap.size w W→CR 121 #[.string a1] W (.tuple #[.agg #[.int .i64 s,.string b],.bool o1]))
 (h2:∀ W,Below w.heap.size w W→CR 121 #[.string a2] W (.tuple #[.agg #[.int .i64 t,.string c],.bool o2])) :
 CR 160 #[.string a1,.string a2] w (.tuple #[.agg #[.int .i64 s,.string b],.agg #[.int .i64 t,.string c],.bool (o1&&o2)]):=by
 have HX:=hid h1;have HY:=hid h2;clear h1 h2;have u6:=hid (((Below.refl w.heap.size w).alloc (Nat.le_refl _) (.cells #[.int .i64 0,.string ⟨#[]⟩] 137)).alloc (by simp) (.cells #[.int .i64 0,.string ⟨#[]⟩] 137));have HN4:=hid ((Nb.new w 0 ⟨#[]⟩).alloc (.cells #[.int .i64 0,.string ⟨#[]⟩] 137));have HN5:=Nb.new (w.alloc (.cells #[.int .i64 0,.string ⟨#[]⟩] 137)) 0 ⟨#[]⟩;rw[World.size_alloc]at HN5;have HN5:=hid HN5;go_enter func160,ntmps160
 go_wp2_with fail
 refine(HX.o _ u6.o).mono ?_;rintro e w1 ⟨rfl,hb1⟩;obtain ⟨uu,HN4,HN5,HN7⟩:=aN ((u6.o.trans (hb1.mono u6.o.size)).alloc (u6.o.trans (hb1.mono u6.o.size)).size (.cells #[.int .i64 s,.string b] 137)) ((HN4.o.below hb1).alloc (.cells #[.int .i64 s,.string b] 137)) ((HN5.o.below hb1).alloc (.cells #[.int .i64 s,.string b] 137)) (Nb.new w1 s b);have hz1:=hid (show w.heap.size+1<w1.heap.size by have:=hb1.size;simp at this;omega);clear hb1;go_wp2_with fail
 refine(HY.o _ uu.o).mono ?_;rintro e w2 ⟨rfl,hb2⟩;have w9:=uu.o.trans (hb2.mono uu.o.size);obtain ⟨wm,HN4,HN5,HN7,HN9⟩:=bz (w9.alloc w9.size (.cells #[.int .i64 t,.string c] 137)) ((HN4.o.below hb2).alloc (.cells #[.int .i64 t,.string c] 137)) ((HN5.o.below hb2).alloc (.cells #[.int .i64 t,.string c] 137)) ((HN7.o.below hb2).alloc (.cells #[.int .i64 t,.string c] 137)) (Nb.new w2 t c);have hz2:=hid (show w1.heap.size<w2.heap.size by have:=hb2.size;simp at this;omega);clear hb2 w9;go_wp2;have hz1:=hz1.o;have hz2:=hz2.o;have c40:=HN4.o.c0;have c41:=HN4.o.c1;have f4:=HN4.o.f;have c50:=HN5.o.c0;have c51:=HN5.o.c1;have f5:=HN5.o.f;have c70:=HN7.o.c0;have c71:=HN7.o.c1;have c90:=HN9.o.c0;have c91:=HN9.o.c1;generalize w2.alloc (.cells #[.int .i64 t,.string c] 137)=W3 at *;have hlt:w2.heap.size<W3.heap.size:=HN9.o.lt;obtain⟨g4,hg4⟩:∃ g,g=w.heap.size:=⟨_,rfl⟩;obtain⟨g5,hg5⟩:∃ g,g=w.heap.size+1:=⟨_,rfl⟩;obtain⟨g7,hg7⟩:∃ g,g=w1.heap.size:=⟨_,rfl⟩;obtain⟨g9,hg9⟩:∃ g,g=w2.heap.size:=⟨_,rfl⟩;rw[← hg4]at c40 c41;rw[← hg5]at c50 c51;rw[← hg7]at c70 c71;rw[← hg9]at c90 c91;rw[← hg5,← hg4,← hg7,← hg9];have n1:g7≠g4:=by omega
 have n2:g9≠g4:=by omega
 have n3:g7≠g5:=by omega
 have n4:g9≠g5:=by omega
 have n5:g5≠g4:=by omega
 have f40:=f4 0;have f41:=f4 1;have f50:=f5 0;have f51:=f5 1;rw[← hg4]at f40 f41;rw[← hg5]at f50 f51;have hle4:=hid (show w.heap.size≤g4 by omega);have hle5:=hid (show w.heap.size≤g5 by omega);clear f4 f5 hg4 hg5 hg7 hg9 hz1 hz2 hlt;cases o1
 · go_region
   all_goals
    go_wp2;refine bodyPost_ret (v:=.tuple #[.agg #[.int .i64 s,.string b],.agg #[.int .i64 t,.string c],.bool (false&&o2)]) (by simp[results,results160,go_sem,c40,c41,c50,c51]) rfl ⟨rfl,?_⟩;repeat (first|exact wm.o|refine Below.setCell ?_ (by first|exact hle4.o|exact hle5.o) _|refine Below.drew ?_)
 · go_region
   all_goals
    go_wp2;refine bodyPost_ret (v:=.tuple #[.agg #[.int .i64 s,.string b],.agg #[.int .i64 t,.string c],.bool (true&&o2)]) (by simp[results,results160,go_sem,c40,c41,c50,c51]) rfl ⟨rfl,?_⟩;repeat (first|exact wm.o|refine Below.setCell ?_ (by first|exact hle4.o|exact hle5.o) _|refine Below.drew ?_)
theorem ik (x y:Int)(hx:FitZ x)(hy:FitZ y)(w:World)(hl:Zz w) :
 CR 160 #[.string (Sz x),.string (Sz y)] w (.tuple #[Zv x,Zv y,.bool true]) :=
 qY (Sz x) (Sz y) _ _ _ _ true true w (fun W hW=>kN x hx W (hl.on hW)) (fun W hW=>kN y hy W (hl.on hW))
open Go.Lib (hid)
def Zr (s:Int) (n:Nat):Value:=.agg #[.int .i64 s,.string (Sn n)]
theorem mM (s t:Int)(m n k:Nat)(hk:m+n=k)(hm:Fit m)(hn:Fit n)(w:World)(htab:Tb w) :
 CR 215 #[Zr s m,Zr t n] w (Zr s k):=by
 subst hk;have hb0:=((((Below.refl w.heap.size w).alloc (Nat.le_refl _) (.cells #[.int .i64 s,.string (Sn m)] 137)).alloc (by simp) (.cells #[.int .i64 t,.string (Sn n)] 137)).alloc (by simp;omega) (.cells #[.int .i64 0,.string ⟨#[]⟩] 137));have HC:=hid (nAdd m n hm hn _ (htab.on hb0));have u6:=hid hb0;unfold Zr
 generalize m+n=k at *;clear hm hn htab hb0;go_enter func215,ntmps215
 go_wp2_with fail
 refine HC.o.mono ?_;rintro e w1 ⟨rfl,hb1⟩;have HB:=hbt u6 hb1;obtain⟨hc,hf⟩:=fB hb1;have hz:w.heap.size+2<w1.heap.size:=by have:=hb1.size;simp at this;omega
 clear hb1;go_wp2;refine bodyPost_ret (v:=.agg #[.int .i64 s,.string (Sn k)]) (by simp[results,results215,go_sem,hc]) rfl ⟨rfl,?_⟩;repeat (first|exact HB.o|refine Below.setCell ?_ (by simp<;>omega) _|refine Below.alloc ?_ (by simp<;>omega) _|refine Below.drew ?_)
theorem ui (s t r:Int)(m n k:Nat)(hr:s*t=r)(hk:m*n=k)(hs : -1≤r∧r≤1)(hm:Fit m)(hn:Fit n)(w:World)(htab:Tb w) :
 CR 163 #[Zr s m,Zr t n] w (Zr r k):=by
 subst hk;have hb0:=((((Below.refl w.heap.size w).alloc (Nat.le_refl _) (.cells #[.int .i64 s,.string (Sn m)] 137)).alloc (by simp) (.cells #[.int .i64 t,.string (Sn n)] 137)).alloc (by simp;omega) (.cells #[.int .i64 0,.string ⟨#[]⟩] 137));have HC:=hid (nMul m n hm hn _ (htab.on hb0));have u6:=hid hb0;unfold Zr
 generalize m*n=k at *;have h1:=hs.1;have h2:=hs.2;clear hm hn htab hb0 hs;go_enter func163,ntmps163
 go_wp2_with fail
 refine HC.o.mono ?_;rintro e w1 ⟨rfl,hb1⟩;have HB:=hbt u6 hb1;obtain⟨hc,hf⟩:=fB hb1;have hz:w.heap.size+2<w1.heap.size:=by have:=hb1.size;simp at this;omega
 clear hb1;go_wp2;refine bodyPost_ret (v:=.agg #[.int .i64 r,.string (Sn k)]) (by simp[results,results163,go_sem,hc]) rfl ⟨rfl,?_⟩;repeat (first|exact HB.o|refine Below.setCell ?_ (by simp<;>omega) _|refine Below.alloc ?_ (by simp<;>omega) _|refine Below.drew ?_)
theorem sJ (t:Int)(b:ByteArray)(w:World)(hl:Zz w) :
 CR 214 #[.agg #[.int .i64 0,.string ⟨#[48]⟩],.agg #[.int .i64 t,.string b]] w (.agg #[.int .i64 t,.string b]):=by
 obtain⟨h0,h1,h2⟩:=hl;have n1:1<w.heap.size+1+1:=by omega
 have n2:1<w.heap.size+1:=by omega
 go_enter func214,ntmps214
 go_wp2;refine bodyPost_ret (v:=.agg #[.int .i64 t,.string b]) (by simp[results,results214,go_sem]) rfl ⟨rfl,?_⟩;repeat (first|exact Below.refl _ _|refine Below.setCell ?_ (by simp<;>omega) _|refine Below.alloc ?_ (by simp<;>omega) _|refine Below.drew ?_)
theorem jX (s:Int)(hs:s≠0)(b:ByteArray)(v:ByteArray)(t:Int)(w:World)(hl:Zz w) :
 CR 214 #[.agg #[.int .i64 s,.string b],.agg #[.int .i64 t,.string v]] w (.agg #[.int .i64 s,.string b]):=by
 obtain⟨h0,h1,h2⟩:=hl;have n1:1<w.heap.size+1+1:=by omega
 have n2:1<w.heap.size+1:=by omega
 have hs1:(s==0)=false:=by simpa using hs
 have hs2:¬ s=0:=hs;go_enter func214,ntmps214
 go_wp2;refine bodyPost_ret (v:=.agg #[.int .i64 s,.string b]) (by simp[results,results214,go_sem]) rfl ⟨rfl,?_⟩;repeat (first|exact Below.refl _ _|refine Below.setCell ?_ (by simp<;>omega) _|refine Below.alloc ?_ (by simp<;>omega) _|refine Below.drew ?_)
theorem oF (s t:Int)(n:Nat)(h1 : -1≤t)(h2:t≤1)(hst:s = -t)(w:World)(hl:Zz w) :
 CR 213 #[Zr s n,Zr t n] w (.agg #[.int .i64 0,.string ⟨#[48]⟩]):=by
 have HN:=hid (fun W=>fK t (Sn n) h1 h2 W);rw[← hst]at HN;unfold Zr
 have hb0:=((((Below.refl w.heap.size w).alloc (Nat.le_refl _) (.cells #[.int .i64 s,.string (Sn n)] 137)).alloc (by simp) (.cells #[.int .i64 t,.string (Sn n)] 137)).alloc (by simp;omega) (.cells #[.int .i64 0,.string ⟨#[]⟩] 137));have u6:=hid hb0;obtain⟨z0,z1,z2⟩:=hl.on hb0;clear hst h1 h2 hb0;go_enter func213,ntmps213
 go_wp2;go_region_with (go_at_call 216;go_must (refine(HN.o _).mono ?_;rintro e w1 ⟨rfl,hb1⟩;obtain⟨hc1,hf1⟩:=fB hb1;have hz1:w.heap.size+2<w1.heap.size:=by have:=hb1.size;simp at this;omega))
 all_goals
  go_wp2;refine bodyPost_ret (v:=.agg #[.int .i64 0,.string ⟨#[48]⟩]) (by simp[results,results213,go_sem,hc1]) rfl ⟨rfl,?_⟩;repeat (first|exact u6.o.trans (hb1.mono u6.o.size)|exact u6.o.drew.trans (hb1.mono u6.o.drew.size)|refine Below.setCell ?_ (by simp<;>omega) _|refine Below.alloc ?_ (by simp<;>omega) _|refine Below.drew ?_)
