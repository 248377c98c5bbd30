/- texts -/
import Derived.Test.YtkiklcbhglpooaaGreatDoorMz12q
import Derived.Deep.RegionHeld3
import Derived.StillTailTactics
open Go.Proofs.Tryz
namespace Go.Proofs.YtkiklcbhglpooaaGreatDoor
open Go.RowKit Go.Gb
def Sn (n:Nat):ByteArray:=⟨(Lib.decDigits n).toArray⟩
theorem bQ (n:Nat):(Sn n).data.toList=Lib.decDigits n:=by simp[Sn]
theorem eP (n:Nat):vld (Sn n).data.toList=true:=by rw[bQ];exact nz n
theorem bR (n:Nat):aH (Sn n).data.toList=n:=by rw[bQ];exact gM n
theorem z5U {a:ByteArray}(h:vld a.data.toList=true):a=Sn (aH a.data.toList):=by
 cases a with
 | mk d =>
   unfold Sn
   congr 1
   rw[jZ _ h]
theorem z3K {x y:Nat}(h:Sn x=Sn y):x=y:=by rw[← bR x,← bR y,h]
def Sm (k n:Nat):Prop:=n<10^k
theorem Sm.mono {k l n:Nat}(h:Sm k n)(hkl:k≤l):Sm l n:=Nat.lt_of_lt_of_le h (Nat.pow_le_pow_right (by decide) hkl)
theorem Sm.le {k m n:Nat}(h:Sm k n)(hmn:m≤n):Sm k m:=Nat.lt_of_le_of_lt hmn h
theorem Sm.add {k m n:Nat}(hm:Sm k m)(hn:Sm k n):Sm (k+1) (m+n):=by
 unfold Sm at *;rw[Nat.pow_succ];omega
theorem Sm.mul {k l m n:Nat}(hm:Sm k m)(hn:Sm l n):Sm (k+l) (m*n):=by
 unfold Sm at *
 rw[Nat.pow_add];rcases Nat.eq_zero_or_pos n with h|h
 · rw[h,Nat.mul_zero];exact Nat.mul_pos (Nat.pow_pos (by decide)) (Nat.pow_pos (by decide))
 · exact Nat.mul_lt_mul_of_lt_of_le hm (Nat.le_of_lt hn) (Nat.pow_pos (by decide))
theorem Sm.of {a:ByteArray}(h:vld a.data.toList=true){k:Nat}(hl:a.size≤k):Sm k (aH a.data.toList):=by
 have h1:=il _ (bB h);exact Nat.lt_of_lt_of_le h1 (Nat.pow_le_pow_right (by decide) (by rw[aB];exact hl))
theorem nZ:∀ (k n:Nat),Sm k n→0<k→(Lib.decDigits n).length≤k
 | 0,_,_,h=>absurd h (by omega)
 | 1,n,h,_=>by
   have:n<10:=by simpa [Sm] using h
   rw[Lib.decDigits,dif_pos this];simp
 | k+2,n,h,_=>by
   by_cases h10:n<10
   · rw[Lib.decDigits,dif_pos h10];simp
   · rw[Lib.decDigits,dif_neg h10,List.length_append]
     have:=nZ (k+1) (n / 10) (by unfold Sm at *;rw[Nat.pow_succ]at h;omega) (by omega);simp;omega
theorem fP {k n:Nat}(h:Sm k n)(hk:0<k):(Sn n).size≤k:=by
 have:=nZ k n h hk;rw[← bQ,aB]at this;exact this
theorem fT {k n:Nat}(h:Sm k n)(hk:0<k):(ag n).length≤k:=by
 have h1:=dG (bB (eP n)) k (by rw[aB];have:=fP h hk;omega);rwa [bR]at h1
def Fit (n:Nat):Prop:=Sm 2000 n
theorem Fit.size {n:Nat}(h:Fit n):(Sn n).size≤2000:=fP h (by decide)
theorem Fit.max {n:Nat}(h:Fit n):(Sn n).size≤maxLen:=by have:=h.size;unfold maxLen;omega
theorem z3Y (x:Nat)(hx:Fit x)(w:World) :
 Calls Tryz.prog 201 #[.string (Sn x)] w fun e w'=>e=.returned (.bool true)∧w=w' :=
 bN (Sn x) (eP x) hx.max w
theorem rH (x y:Nat)(hx:Fit x)(hy:Fit y)(w:World) :
 Calls Tryz.prog 275 #[.string (Sn x),.string (Sn y)] w fun e w'=>e=.returned (.tuple #[.int .i64 (cmpN x y),.int .i64 0])∧w=w':=by
 have h:=wR (Sn x) (Sn y) (eP x) (eP y) hx.max hy.max w;rwa [bR,bR]at h
theorem nAdd (x y:Nat)(hx:Fit x)(hy:Fit y)(w:World)(htab:Tb w) :
 CR 298 #[.string (Sn x),.string (Sn y)] w (.tuple #[.string (Sn (x+y)),.int .i64 0]):=by
 have sx:=hx.size;have sy:=hy.size;by_cases hs:(Sn x).size≤18∧(Sn y).size≤18
 · have h:=z1L (Sn x) (Sn y) (eP x) (eP y) hs.1 hs.2 w htab
   rwa [bR,bR]at h
 · have hxy:x≠0∨y≠0:=by
    rcases Nat.eq_zero_or_pos x with h0|h0
    · rcases Nat.eq_zero_or_pos y with h1|h1
      · exfalso
        subst h0 h1;have:(Sn 0).size≤1:=fP (k:=1) (by simp[Sm]) (by decide);omega
      · right;omega
    · left;omega
   have h:=z3D (Sn x) (Sn y) (eP x) (eP y) (by omega) (by omega) (by omega) (by
    rw[bR,bR]
    exact z4S x y hxy (Nat.le_trans (fT hx (by decide)) (by decide)) (Nat.le_trans (fT hy (by decide)) (by decide))) w htab
   rwa [bR,bR]at h
theorem nSub (x y:Nat)(hx:Fit x)(hyx:y≤x)(w:World)(htab:Tb w) :
 CR 297 #[.string (Sn x),.string (Sn y)] w (.tuple #[.string (Sn (x-y)),.int .i64 0]):=by
 have sx:=hx.size;have sy:=Fit.size (Sm.le hx hyx);have h:=z4T (Sn x) (Sn y) (eP x) (eP y) (by rw[bR,bR];exact hyx) (by omega) (by omega) w htab;rwa [bR,bR]at h
theorem nMul (x y:Nat)(hx:Fit x)(hy:Fit y)(w:World)(htab:Tb w) :
 CR 276 #[.string (Sn x),.string (Sn y)] w (.tuple #[.string (Sn (x*y)),.int .i64 0]):=by
 have sx:=hx.size;have sy:=hy.size;have h:=z4V (Sn x) (Sn y) (eP x) (eP y) (by omega) (by omega) w htab;rwa [bR,bR]at h
theorem z4C (x y:Nat)(hx:Fit x)(hy:Fit y)(h0:y≠0)(w:World)(htab:Tb w) :
 CR 281 #[.string (Sn x),.string (Sn y)] w (.tuple #[.string (Sn (x / y)),.string (Sn (x%y)),.int .i64 0]):=by
 have sx:=hx.size;have sy:=hy.size;have h:=zJ (Sn x) (Sn y) (eP x) (eP y) (by rw[bR];exact h0) (by omega) (by omega) w htab;rwa [bR,bR]at h
set_option maxRecDepth 100000
set_option maxHeartbeats 20000000
theorem fM {W w1:World}(hb:Below W.heap.size W w1):(∀ b o,b<W.heap.size→w1.cell? ⟨b,o,none⟩=W.cell? ⟨b,o,none⟩)∧(∀ b o,b<W.heap.size→w1.frozen? ⟨b,o,none⟩=W.frozen? ⟨b,o,none⟩) :=
 ⟨fun b o h=>hb.cell (p:=⟨b,o,none⟩) h,fun b o h=>hb.frozen (p:=⟨b,o,none⟩) h⟩
def Zz (w:World):Prop:=1<w.heap.size∧w.cell? ⟨1,0,none⟩=some (.int .i64 0)∧w.cell? ⟨1,1,none⟩=some (.string ⟨#[48]⟩)
theorem Zz.on {w w':World}(h:Zz w)(hb:Below w.heap.size w w'):Zz w' :=
 ⟨Nat.lt_of_lt_of_le h.1 hb.size,(hb.cell (p:=⟨1,0,none⟩) h.1).trans h.2.1,(hb.cell (p:=⟨1,1,none⟩) h.1).trans h.2.2⟩
structure La (w:World):Prop where
 tb:Tb w
 zz:Zz w
theorem La.on {w w':World}(h:La w)(hb:Below w.heap.size w w'):La w':=⟨h.tb.on hb,h.zz.on hb⟩
theorem ve:Sn 0=⟨#[48]⟩:=by decide +kernel
theorem z5h:Sn 1=⟨#[49]⟩:=by decide +kernel
theorem qO (n:Nat):(Sn n).toList=Lib.decDigits n:=by rw[toList_data,bQ]
theorem z04 {x y:Nat}(h:x≠y):((Sn x).toList==(Sn y).toList)=false:=by
 rw[beq_eq_false_iff_ne,qO,qO];exact fun h2=>h (z4L h2)
theorem z03 {x:Nat}(h:x≠0):((Sn x).toList==[48])=false:=by
 rw[beq_eq_false_iff_ne,qO];intro h2;apply h
 rw[← gM x,h2];rfl
def Zv (z:Int):Value:=.agg #[.int .i64 z.sign,.string (Sn z.natAbs)]
def Sz (z:Int):ByteArray:=if z<0 then ⟨(45 :: Lib.decDigits z.natAbs).toArray⟩ else Sn z.natAbs
theorem jw {n:Nat}(h:n≠0):Sz (-(n:Int))=⟨(45 :: Lib.decDigits n).toArray⟩:=by
 unfold Sz;rw[if_pos (by omega),Int.natAbs_neg,Int.natAbs_natCast]
theorem dC (n:Nat):Sz (n:Int)=Sn n:=by
 unfold Sz;rw[if_neg (by omega),Int.natAbs_natCast]
theorem gY {n:Nat}(h:n≠0):Zv (-(n:Int))=.agg #[.int .i64 (-1),.string (Sn n)]:=by
 unfold Zv;rw[Int.natAbs_neg,Int.natAbs_natCast,Int.sign_neg,Int.sign_natCast_of_ne_zero h]
theorem gX {n:Nat}(h:n≠0):Zv (n:Int)=.agg #[.int .i64 1,.string (Sn n)]:=by
 unfold Zv;rw[Int.natAbs_natCast,Int.sign_natCast_of_ne_zero h]
theorem gW:Zv 0=.agg #[.int .i64 0,.string ⟨#[48]⟩]:=by
 unfold Zv;rw[← ve];rfl
theorem bT (z:Int):(∃ n:Nat,n≠0∧z = -(n:Int))∨z=0∨∃ n:Nat,n≠0∧z=(n:Int):=by
 rcases Int.lt_trichotomy z 0 with h|h|h
 · left;exact⟨z.natAbs,by omega,by omega⟩
 · right;left;exact h
 · right;right;exact⟨z.natAbs,by omega,by omega⟩
def FitZ (z:Int):Prop:=Fit z.natAbs
theorem FitZ.neg {n:Nat}(h:FitZ (-(n:Int))):Fit n:=by unfold FitZ at h;rwa [Int.natAbs_neg,Int.natAbs_natCast]at h
theorem FitZ.nat {n:Nat}(h:FitZ (n:Int)):Fit n:=by unfold FitZ at h;rwa [Int.natAbs_natCast]at h
theorem Fit.neg {n:Nat}(h:Fit n):FitZ (-(n:Int)):=by unfold FitZ;rwa [Int.natAbs_neg,Int.natAbs_natCast]
theorem Fit.nat {n:Nat}(h:Fit n):FitZ (n:Int):=by unfold FitZ;rwa [Int.natAbs_natCast]
theorem fit0:Fit 0:=(show Sm 1 0 by simp[Sm]).mono (by decide)
theorem fit1:Fit 1:=(show Sm 1 1 by simp[Sm]).mono (by decide)
theorem gz (s:Int)(b:ByteArray)(h1 : -1≤s)(h2:s≤1)(w:World) :
 CR 280 #[.agg #[.int .i64 s,.string b]] w (.agg #[.int .i64 (-s),.string b]):=by
 go_enter func280,ntmps280
 go_wp2;refine bodyPost_ret (v:=.agg #[.int .i64 (-s),.string b]) (by simp[results,results280,go_sem]) rfl ⟨rfl,?_⟩;repeat (first|exact Below.refl _ _|refine Below.setCell ?_ (by simp) _|refine Below.alloc ?_ (by simp) _|refine Below.drew ?_)
theorem iI (z:Int)(w:World) :
 CR 280 #[Zv z] w (Zv (-z)):=by
 have h:=gz z.sign (Sn z.natAbs) (by rcases Int.sign_trichotomy z with h|h|h<;>omega) (by rcases Int.sign_trichotomy z with h|h|h<;>omega) w;unfold Zv
 rw[Int.sign_neg,Int.natAbs_neg];exact h
theorem iR (z:Int)(hf:FitZ z)(w:World) :
 CR 219 #[Zv z] w (.string (Sz z)):=by
 rcases bT z with⟨n,hn,rfl⟩|rfl|⟨n,hn,rfl⟩
 · rw[gY hn,jw hn]
   have hadd:=run_string_add_sum (P:=Tryz.prog) (w.alloc (.cells #[.int .i64 (-1),.string (Sn n)] 172)) ⟨#[45]⟩ (Sn n) (by have:=hf.neg.size;have e:(⟨#[45]⟩:ByteArray).size=1:=rfl;omega);clear hn hf;go_enter func219,ntmps219
   go_wp2;go_ret
   refine⟨?_,(Below.refl _ _).alloc (Nat.le_refl _) _⟩
   have e:(⟨#[45]⟩:ByteArray)++Sn n=⟨(45 :: Lib.decDigits n).toArray⟩:=by
    apply ByteArray.ext
    apply Array.ext'
    simp[Sn]
   rw[e];rfl
 · rw[gW,show Sz 0=⟨#[48]⟩from(dC 0).trans ve]
   go_enter func219,ntmps219
   go_wp2;go_ret
   exact⟨rfl,(Below.refl _ _).alloc (Nat.le_refl _) _⟩
 · rw[gX hn,dC]
   go_enter func219,ntmps219
   go_wp2;go_ret
   exact⟨rfl,(Below.refl _ _).alloc (Nat.le_refl _) _⟩
theorem vg (s:Int)(w:World)(hz:Zz w) :
 CR 202 #[.int .i64 s,.string ⟨#[48]⟩] w (Zv 0):=by
 rw[gW];obtain⟨h0,h1,h2⟩:=hz;go_enter func202,ntmps202
 go_wp2;refine bodyPost_ret (v:=.agg #[.int .i64 0,.string ⟨#[48]⟩]) (by simp[results,results202,go_sem]) rfl ⟨rfl,?_⟩;repeat (first|exact Below.refl _ _|refine Below.setCell ?_ (by simp) _|refine Below.alloc ?_ (by simp) _|refine Below.drew ?_)
theorem vk (s:Int)(n:Nat)(hn:n≠0)(w:World) :
 CR 202 #[.int .i64 s,.string (Sn n)] w (.agg #[.int .i64 s,.string (Sn n)]):=by
 have h0:=z03 hn;clear hn;go_enter func202,ntmps202
 go_wp2;refine bodyPost_ret (v:=.agg #[.int .i64 s,.string (Sn n)]) (by simp[results,results202,go_sem]) rfl ⟨rfl,?_⟩;repeat (first|exact Below.refl _ _|refine Below.setCell ?_ (by simp) _|refine Below.alloc ?_ (by simp) _|refine Below.drew ?_)
theorem lQ (s:Int)(n:Nat)(z:Int)(hz:z=s*(n:Int))(hs:s=1∨s = -1)(w:World)(hl:Zz w) :
 CR 202 #[.int .i64 s,.string (Sn n)] w (Zv z):=by
 by_cases hn:n=0
 · subst hn
   obtain rfl:z=0:=by rw[hz];simp
   rw[ve];exact vg s w hl
 · have h:=vk s n hn w
   rcases hs with rfl|rfl
   · rw[show z=(n:Int) by omega,gX hn];exact h
   · rw[show z = -(n:Int) by omega,gY hn];exact h
open Go.Lib (hid)
def vldZ (l:List UInt8):Bool:=match l with
 | []=>false
 | c :: t=>if c=45 then vld t && !(t==[48]) else vld (c :: t)
def zval (l:List UInt8):Int:=match l with
 | []=>0
 | c :: t=>if c=45 then -(aH t:Int) else (aH (c :: t):Int)
theorem jV {n:Nat}:∃ c t,Lib.decDigits n=c :: t∧c≠45:=by
 cases h:Lib.decDigits n with
 | nil=>exact absurd h (iZ n)
 | cons c t =>
   refine⟨c,t,rfl,?_⟩;have h1:=jl n;rw[h]at h1;simp only[List.all_cons,Bool.and_eq_true]at h1;have h2:=(fI c).1 h1.1;intro h3;subst h3;simp at h2
theorem qK (n:Nat):vldZ (Lib.decDigits n)=true:=by
 obtain⟨c,t,h,hc⟩:=jV (n:=n);have hv:=nz n;rw[h]at hv ⊢;unfold vldZ
 simp only[if_neg hc,hv]
theorem mV (n:Nat):zval (Lib.decDigits n)=(n:Int):=by
 obtain⟨c,t,h,hc⟩:=jV (n:=n);have hv:=gM n;rw[h]at hv ⊢;unfold zval
 simp only[if_neg hc,hv]
theorem z6x {n:Nat}(h:Lib.decDigits n=[48]):n=0:=by rw[← gM n,h];rfl
theorem z1V {n:Nat}(hn:n≠0):vldZ (45 :: Lib.decDigits n)=true:=by
 have h:(Lib.decDigits n==[48])=false:=beq_eq_false_iff_ne.2 (fun h=>hn (z6x h));unfold vldZ
 simp[nz n,h]
theorem z1M (n:Nat):zval (45 :: Lib.decDigits n) = -(n:Int):=by
 unfold zval
 simp[gM n]
theorem zV {a:ByteArray}(h:vldZ a.data.toList=true):a=Sz (zval a.data.toList):=by
 cases a with
 | mk d =>
   cases hl:d.toList with
   | nil=>simp[hl,vldZ]at h
   | cons c t =>
     simp only[hl]at h ⊢;by_cases hc:c=45
     · subst hc
       simp only[vldZ,if_true,Bool.and_eq_true]at h;obtain⟨h1,h2⟩:=h;have hd:=jZ t h1
       have hne:aH t≠0:=by
        intro h0;rw[h0,Lib.decDigits_one (by decide)]at hd;rw[← hd]at h2;simp at h2
       have e:zval (45 :: t) = -(aH t:Int):=by simp[zval]
       rw[e,jw hne,hd,← hl]
     · simp only[vldZ,if_neg hc]at h
       have hd:=jZ (c :: t) h;have e:zval (c :: t)=(aH (c :: t):Int):=by simp[zval,hc]
       rw[e,dC];unfold Sn
       rw[hd,← hl]
theorem z5d (z:Int):vldZ (Sz z).data.toList=true:=by
 rcases bT z with⟨n,hn,rfl⟩|rfl|⟨n,hn,rfl⟩
 · rw[jw hn];simpa using z1V hn
 · rw[show Sz 0=Sn 0 from dC 0,bQ];exact qK 0
 · rw[dC,bQ];exact qK n
theorem wX (z:Int):zval (Sz z).data.toList=z:=by
 rcases bT z with⟨n,hn,rfl⟩|rfl|⟨n,hn,rfl⟩
 · rw[jw hn];simpa using z1M n
 · rw[show Sz 0=Sn 0 from dC 0,bQ];exact mV 0
 · rw[dC,bQ];exact mV n
theorem wB (l:List UInt8)(w:World) :
 Calls Tryz.prog 200 #[.string ⟨(45 :: l).toArray⟩,.string ⟨#[45]⟩] w fun e w'=>e=.returned (.tuple #[.string ⟨l.toArray⟩,.bool true])∧w=w':=by
 refine(Tryz.strings_CutPrefix _ _ w).mono ?_;rintro e w' ⟨rfl,rfl⟩;refine⟨?_,rfl⟩;simp[Lib.trimPrefix,Lib.hasPrefix,List.isPrefixOf]
theorem z1r (s:ByteArray)(h:∀ t,s.data.toList≠45 :: t)(w:World) :
 Calls Tryz.prog 200 #[.string s,.string ⟨#[45]⟩] w fun e w'=>e=.returned (.tuple #[.string s,.bool false])∧w=w':=by
 refine(Tryz.strings_CutPrefix _ _ w).mono ?_;rintro e w' ⟨rfl,rfl⟩;refine⟨?_,rfl⟩
 have hp:Lib.hasPrefix s.data.toList [45]=false:=by
  unfold Lib.hasPrefix
  cases hl:s.data.toList with
  | nil=>rfl
  | cons c t =>
    have:¬ 45=c:=by intro hc;subst hc;exact h t hl
    simp[List.isPrefixOf,this]
 have e:(⟨#[45]⟩:ByteArray).data.toList=[45]:=rfl;rw[e,hp];unfold Lib.trimPrefix
 rw[hp];cases s
 simp
def Zno:Value:=.agg #[.int .i64 0,.string ⟨#[]⟩]
theorem z2o (n:Nat)(hn:n≠0)(hf:Fit n)(w:World) :
 CR 169 #[.string ⟨(45 :: Lib.decDigits n).toArray⟩] w (.tuple #[.agg #[.int .i64 (-1),.string (Sn n)],.bool true]):=by
 have HC:=hid (wB (Lib.decDigits n));rw[show(⟨(Lib.decDigits n).toArray⟩:ByteArray)=Sn n from rfl]at HC;have HV:=hid (z3Y n hf);have h0:=z03 hn;clear hn hf;go_enter func169,ntmps169
 go_wp2_with fail
 refine(HC.o _).mono ?_;rintro e w' ⟨rfl,rfl⟩;go_wp2_with fail
 refine(HV.o _).mono ?_;rintro e w' ⟨rfl,rfl⟩;go_wp2;refine bodyPost_ret (v:=.tuple #[.agg #[.int .i64 (-1),.string (Sn n)],.bool true]) (by simp[results,results169,go_sem]) rfl ⟨rfl,?_⟩;repeat (first|exact Below.refl _ _|refine Below.setCell ?_ (by simp) _|refine Below.alloc ?_ (by simp) _|refine Below.drew ?_)
theorem z6q {n:Nat}:∀ t,(Sn n).data.toList≠45 :: t:=by
 intro t h;rw[bQ]at h;obtain⟨c,t',h2,hc⟩:=jV (n:=n);rw[h2]at h;injection h with h3 h4
 exact hc h3
theorem xy (n:Nat)(hf:Fit n)(w:World)(hl:Zz w) :
 CR 169 #[.string (Sn n)] w (.tuple #[Zv (n:Int),.bool true]):=by
 have HC:=hid (z1r (Sn n) z6q);have HV:=hid (z3Y n hf);have hb0:=(Below.refl w.heap.size w).alloc (Nat.le_refl _) (.cells #[.int .i64 0,.string ⟨#[]⟩] 172);have HS:=hid (lQ 1 n (n:Int) (by omega) (Or.inl rfl) _ (hl.on hb0));unfold Zv at *
 generalize (n:Int).sign=s at *;generalize Sn (n:Int).natAbs=b at *;clear hf hl hb0;go_enter func169,ntmps169
 go_wp2_with fail
 refine(HC.o _).mono ?_;rintro e w' ⟨rfl,rfl⟩;go_wp2_with fail
 refine(HV.o _).mono ?_;rintro e w' ⟨rfl,rfl⟩;go_wp2_with fail
 refine HS.o.mono ?_;rintro e w1 ⟨rfl,hb1⟩;have HB:=hid (((Below.refl w.heap.size w).alloc (Nat.le_refl _) (.cells #[.int .i64 0,.string ⟨#[]⟩] 172)).trans (hb1.mono (by simp)));obtain⟨hc,hf⟩:=fM hb1;have hz:w.heap.size<w1.heap.size:=by have:=hb1.size;simp at this;omega
 clear hb1;go_wp2;refine bodyPost_ret (v:=.tuple #[.agg #[.int .i64 s,.string b],.bool true]) (by simp[results,results169,go_sem,hc]) rfl ⟨rfl,?_⟩;repeat (first|exact HB.o|refine Below.setCell ?_ (by simp) _|refine Below.alloc ?_ (by simp) _|refine Below.drew ?_)
theorem kX (z:Int)(hf:FitZ z)(w:World)(hl:Zz w) :
 CR 169 #[.string (Sz z)] w (.tuple #[Zv z,.bool true]):=by
 rcases bT z with⟨n,hn,rfl⟩|rfl|⟨n,hn,rfl⟩
 · rw[jw hn,gY hn];exact z2o n hn hf.neg w
 · rw[show Sz 0=Sn 0 from dC 0];exact xy 0 fit0 w hl
 · rw[dC];exact xy n hf.nat w hl
theorem z0o (l:List UInt8)(h:vld l=false)(hs:l.length≤maxLen)(w:World) :
 CR 169 #[.string ⟨(45 :: l).toArray⟩] w (.tuple #[Zno,.bool false]):=by
 have HC:=hid (wB l);have HV:=hid (yh ⟨l.toArray⟩ (by simpa using h) (by simpa [ByteArray.size] using hs));clear h hs;go_enter func169,ntmps169
 go_wp2_with fail
 refine(HC.o _).mono ?_;rintro e w' ⟨rfl,rfl⟩;go_wp2_with fail
 refine(HV.o _).mono ?_;rintro e w' ⟨rfl,rfl⟩;go_wp2;refine bodyPost_ret (v:=.tuple #[Zno,.bool false]) (by simp[results,results169,go_sem,Zno]) rfl ⟨rfl,?_⟩;repeat (first|exact Below.refl _ _|refine Below.setCell ?_ (by simp) _|refine Below.alloc ?_ (by simp) _|refine Below.drew ?_)
theorem z0n (w:World) :
 CR 169 #[.string ⟨(45 :: [48]).toArray⟩] w (.tuple #[Zno,.bool false]):=by
 have HC:=hid (wB [48]);have HV:=hid (bN ⟨#[48]⟩ (by decide +kernel) (by decide));go_enter func169,ntmps169
 go_wp2_with fail
 refine(HC.o _).mono ?_;rintro e w' ⟨rfl,rfl⟩;go_wp2_with fail
 refine(HV.o _).mono ?_;rintro e w' ⟨rfl,rfl⟩;go_wp2;refine bodyPost_ret (v:=.tuple #[Zno,.bool false]) (by simp[results,results169,go_sem,Zno]) rfl ⟨rfl,?_⟩;repeat (first|exact Below.refl _ _|refine Below.setCell ?_ (by simp) _|refine Below.alloc ?_ (by simp) _|refine Below.drew ?_)
theorem tN (s:ByteArray)(h0:∀ t,s.data.toList≠45 :: t)(h:vld s.data.toList=false)(hs:s.size≤maxLen)(w:World) :
 CR 169 #[.string s] w (.tuple #[Zno,.bool false]):=by
 have HC:=hid (z1r s h0);have HV:=hid (yh s h hs);clear h hs h0;go_enter func169,ntmps169
 go_wp2_with fail
 refine(HC.o _).mono ?_;rintro e w' ⟨rfl,rfl⟩;go_wp2_with fail
 refine(HV.o _).mono ?_;rintro e w' ⟨rfl,rfl⟩;go_wp2;refine bodyPost_ret (v:=.tuple #[Zno,.bool false]) (by simp[results,results169,go_sem,Zno]) rfl ⟨rfl,?_⟩;repeat (first|exact Below.refl _ _|refine Below.setCell ?_ (by simp) _|refine Below.alloc ?_ (by simp) _|refine Below.drew ?_)
theorem z4r (s:ByteArray)(h:vldZ s.data.toList=false)(hs:s.size≤maxLen)(w:World) :
 CR 169 #[.string s] w (.tuple #[Zno,.bool false]):=by
 cases s with
 | mk d =>
   cases hl:d.toList with
   | nil =>
     refine tN ⟨d⟩ (fun t=>by simp[hl]) (by simp[hl,vld]) hs w
   | cons c t =>
     by_cases hc:c=45
     · subst hc
       have hd:d=(45 :: t).toArray:=by rw[← hl]
       have ht:t.length≤maxLen:=by
        have:d.size=t.length+1:=by rw[← Array.length_toList,hl];simp
        simp[ByteArray.size]at hs;omega
       simp only[hl,vldZ,if_true,Bool.and_eq_false_iff]at h;rw[hd];rcases h with h|h
       · exact z0o t h ht w
       · obtain rfl:t=[48]:=by simpa using h
         exact z0n w
     · refine tN ⟨d⟩ (fun t'=>?_) ?_ hs w
       · simp only[hl];intro h2;injection h2 with h3 h4;exact hc h3
       · simp only[hl,vldZ,if_neg hc]at h ⊢;exact h
theorem dE (z:Int)(hf:FitZ z)(w:World)(hl:Zz w) :
 CR 120 #[.string (Sz z)] w (.bool true):=by
 have HR:=hid (kX z hf w hl);unfold Zv at HR
 generalize z.sign=s at *;generalize Sn z.natAbs=b at *;clear hf hl;go_enter func120,ntmps120
 go_wp2_with fail
 refine HR.o.mono ?_;rintro e w1 ⟨rfl,hb1⟩;have HB:=hid hb1;clear hb1;go_wp2;go_ret
 refine⟨rfl,?_⟩;repeat (first|exact HB.o|refine Below.setCell ?_ (by have:=HB.o.size;simp;omega) _|refine Below.alloc ?_ (by have:=HB.o.size;simp;omega) _|refine Below.drew ?_)
theorem ni (a:ByteArray)(h:vldZ a.data.toList=false)(hs:a.size≤maxLen)(w:World) :
 CR 120 #[.string a] w (.bool false):=by
 have HR:=hid (z4r a h hs w);unfold Zno at HR
 clear h hs;go_enter func120,ntmps120
 go_wp2_with fail
 refine HR.o.mono ?_;rintro e w1 ⟨rfl,hb1⟩;have HB:=hid hb1;clear hb1;go_wp2;go_ret
 refine⟨rfl,?_⟩;repeat (first|exact HB.o|refine Below.setCell ?_ (by have:=HB.o.size;simp;omega) _|refine Below.alloc ?_ (by have:=HB.o.size;simp;omega) _|refine Below.drew ?_)
end Go.Proofs.YtkiklcbhglpooaaGreatDoor
set_option maxRecDepth 100000
set_option maxHeartbeats 20000000
open Go.Lib (hid)
namespace Go.Proofs.YtkiklcbhglpooaaGreatDoor
open Go.RowKit Go.Gb
def Nb (w:World) (g:Nat) (s:Int) (b:ByteArray):Prop:=w.heap[g]? = some (.cells #[.int .i64 s,.string b] 172 (0,0))
theorem Nb.lt {w:World}{g:Nat}{s:Int}{b:ByteArray}(h:Nb w g s b):g<w.heap.size:=(Array.getElem?_eq_some_iff.1 h).1
theorem Nb.below {w w':World}{g:Nat}{s:Int}{b:ByteArray}(h:Nb w g s b)(hb:Below w.heap.size w w'):Nb w' g s b:=by
 unfold Nb at *
 rw[hb.block g (Array.getElem?_eq_some_iff.1 h).1];exact h
theorem Nb.new (w:World)(s:Int)(b:ByteArray):Nb (w.alloc (.cells #[.int .i64 s,.string b] 172)) w.heap.size s b:=by
 unfold Nb;rw[heap_alloc_new]
theorem Nb.alloc {w:World}{g:Nat}{s:Int}{b:ByteArray}(h:Nb w g s b)(o:Obj):Nb (w.alloc o) g s b:=h.below ((Below.refl _ _).alloc (Nat.le_refl _) o)
theorem Nb.c0 {w:World}{g:Nat}{s:Int}{b:ByteArray}(h:Nb w g s b):w.cell? ⟨g,0,none⟩=some (.int .i64 s):=by
 unfold Nb at h;simp[World.cell?,h]
theorem Nb.c1 {w:World}{g:Nat}{s:Int}{b:ByteArray}(h:Nb w g s b):w.cell? ⟨g,1,none⟩=some (.string b):=by
 unfold Nb at h;simp[World.cell?,h]
theorem Nb.f {w:World}{g:Nat}{s:Int}{b:ByteArray}(h:Nb w g s b)(i:Nat):w.frozen? ⟨g,i,none⟩=false:=by
 unfold Nb at h;simp only[World.frozen?,h];simp
theorem ry (a1 a2:ByteArray)(s t:Int)(b c:ByteArray)(o1 o2:Bool)(w:World)
 (h1:∀ W,Below w.heap.size w W→CR 169 #[.string a1] W (.tuple #[.agg #[.int .i64 s,.string b],.bool o1]))
 (h2:∀ W,Below w.heap.size w W→CR 169 #[.string a2] W (.tuple #[.agg #[.int .i64 t,.string c],.bool o2])) :
 CR 217 #[.string a1,.string a2] w (.tuple #[.agg #[.int .i64 s,.string b],.agg #[.int .i64 t,.string c],.bool (o1&&o2)]):=by
 have HX:=hid h1;have HY:=hid h2;clear h1 h2;have u6:=hid (((Below.refl w.heap.size w).alloc (Nat.le_refl _) (.cells #[.int .i64 0,.string ⟨#[]⟩] 172)).alloc (by simp) (.cells #[.int .i64 0,.string ⟨#[]⟩] 172));have HN4:=hid ((Nb.new w 0 ⟨#[]⟩).alloc (.cells #[.int .i64 0,.string ⟨#[]⟩] 172));have HN5:=Nb.new (w.alloc (.cells #[.int .i64 0,.string ⟨#[]⟩] 172)) 0 ⟨#[]⟩;rw[World.size_alloc]at HN5;have HN5:=hid HN5;go_enter func217,ntmps217
 go_wp2_with fail
 refine(HX.o _ u6.o).mono ?_;rintro e w1 ⟨rfl,hb1⟩;obtain ⟨w9,HN4,HN5,HN7⟩:=aP ((u6.o.trans (hb1.mono u6.o.size)).alloc (u6.o.trans (hb1.mono u6.o.size)).size (.cells #[.int .i64 s,.string b] 172)) ((HN4.o.below hb1).alloc (.cells #[.int .i64 s,.string b] 172)) ((HN5.o.below hb1).alloc (.cells #[.int .i64 s,.string b] 172)) (Nb.new w1 s b);have hz1:=hid (show w.heap.size+1<w1.heap.size by have:=hb1.size;simp at this;omega);clear hb1;go_wp2_with fail
 refine(HY.o _ w9.o).mono ?_;rintro e w2 ⟨rfl,hb2⟩;have wo:=w9.o.trans (hb2.mono w9.o.size);obtain ⟨wu,HN4,HN5,HN7,HN9⟩:=cB (wo.alloc wo.size (.cells #[.int .i64 t,.string c] 172)) ((HN4.o.below hb2).alloc (.cells #[.int .i64 t,.string c] 172)) ((HN5.o.below hb2).alloc (.cells #[.int .i64 t,.string c] 172)) ((HN7.o.below hb2).alloc (.cells #[.int .i64 t,.string c] 172)) (Nb.new w2 t c);have hz2:=hid (show w1.heap.size<w2.heap.size by have:=hb2.size;simp at this;omega);clear hb2 wo;go_wp2;have hz1:=hz1.o;have hz2:=hz2.o;have c40:=HN4.o.c0;have c41:=HN4.o.c1;have f4:=HN4.o.f;have c50:=HN5.o.c0;have c51:=HN5.o.c1;have f5:=HN5.o.f;have c70:=HN7.o.c0;have c71:=HN7.o.c1;have c90:=HN9.o.c0;have c91:=HN9.o.c1;generalize w2.alloc (.cells #[.int .i64 t,.string c] 172)=W3 at *;have hlt:w2.heap.size<W3.heap.size:=HN9.o.lt;obtain⟨g4,hg4⟩:∃ g,g=w.heap.size:=⟨_,rfl⟩;obtain⟨g5,hg5⟩:∃ g,g=w.heap.size+1:=⟨_,rfl⟩;obtain⟨g7,hg7⟩:∃ g,g=w1.heap.size:=⟨_,rfl⟩;obtain⟨g9,hg9⟩:∃ g,g=w2.heap.size:=⟨_,rfl⟩;rw[← hg4]at c40 c41;rw[← hg5]at c50 c51;rw[← hg7]at c70 c71;rw[← hg9]at c90 c91;rw[← hg5,← hg4,← hg7,← hg9];have n1:g7≠g4:=by omega
 have n2:g9≠g4:=by omega
 have n3:g7≠g5:=by omega
 have n4:g9≠g5:=by omega
 have n5:g5≠g4:=by omega
 have f40:=f4 0;have f41:=f4 1;have f50:=f5 0;have f51:=f5 1;rw[← hg4]at f40 f41;rw[← hg5]at f50 f51;have hle4:=hid (show w.heap.size≤g4 by omega);have hle5:=hid (show w.heap.size≤g5 by omega);clear f4 f5 hg4 hg5 hg7 hg9 hz1 hz2 hlt;cases o1
 · go_region
   all_goals
    go_wp2;refine bodyPost_ret (v:=.tuple #[.agg #[.int .i64 s,.string b],.agg #[.int .i64 t,.string c],.bool (false&&o2)]) (by simp[results,results217,go_sem,c40,c41,c50,c51]) rfl ⟨rfl,?_⟩;repeat (first|exact wu.o|refine Below.setCell ?_ (by first|exact hle4.o|exact hle5.o) _|refine Below.drew ?_)
 · go_region
   all_goals
    go_wp2;refine bodyPost_ret (v:=.tuple #[.agg #[.int .i64 s,.string b],.agg #[.int .i64 t,.string c],.bool (true&&o2)]) (by simp[results,results217,go_sem,c40,c41,c50,c51]) rfl ⟨rfl,?_⟩;repeat (first|exact wu.o|refine Below.setCell ?_ (by first|exact hle4.o|exact hle5.o) _|refine Below.drew ?_)
theorem iG (x y:Int)(hx:FitZ x)(hy:FitZ y)(w:World)(hl:Zz w) :
 CR 217 #[.string (Sz x),.string (Sz y)] w (.tuple #[Zv x,Zv y,.bool true]) :=
 ry (Sz x) (Sz y) _ _ _ _ true true w (fun W hW=>kX x hx W (hl.on hW)) (fun W hW=>kX y hy W (hl.on hW))
open Go.Lib (hid)
def Zr (s:Int) (n:Nat):Value:=.agg #[.int .i64 s,.string (Sn n)]
theorem mM (s t:Int)(m n k:Nat)(hk:m+n=k)(hm:Fit m)(hn:Fit n)(w:World)(htab:Tb w) :
 CR 279 #[Zr s m,Zr t n] w (Zr s k):=by
 subst hk;have hb0:=((((Below.refl w.heap.size w).alloc (Nat.le_refl _) (.cells #[.int .i64 s,.string (Sn m)] 172)).alloc (by simp) (.cells #[.int .i64 t,.string (Sn n)] 172)).alloc (by simp;omega) (.cells #[.int .i64 0,.string ⟨#[]⟩] 172));have HC:=hid (nAdd m n hm hn _ (htab.on hb0));have u6:=hid hb0;unfold Zr
 generalize m+n=k at *;clear hm hn htab hb0;go_enter func279,ntmps279
 go_wp2_with fail
 refine HC.o.mono ?_;rintro e w1 ⟨rfl,hb1⟩;have HB:=hbt u6 hb1;obtain⟨hc,hf⟩:=fM hb1;have hz:w.heap.size+2<w1.heap.size:=by have:=hb1.size;simp at this;omega
 clear hb1;go_wp2;refine bodyPost_ret (v:=.agg #[.int .i64 s,.string (Sn k)]) (by simp[results,results279,go_sem,hc]) rfl ⟨rfl,?_⟩;repeat (first|exact HB.o|refine Below.setCell ?_ (by simp<;>omega) _|refine Below.alloc ?_ (by simp<;>omega) _|refine Below.drew ?_)
theorem uk (s t r:Int)(m n k:Nat)(hr:s*t=r)(hk:m*n=k)(hs : -1≤r∧r≤1)(hm:Fit m)(hn:Fit n)(w:World)(htab:Tb w) :
 CR 244 #[Zr s m,Zr t n] w (Zr r k):=by
 subst hk;have hb0:=((((Below.refl w.heap.size w).alloc (Nat.le_refl _) (.cells #[.int .i64 s,.string (Sn m)] 172)).alloc (by simp) (.cells #[.int .i64 t,.string (Sn n)] 172)).alloc (by simp;omega) (.cells #[.int .i64 0,.string ⟨#[]⟩] 172));have HC:=hid (nMul m n hm hn _ (htab.on hb0));have u6:=hid hb0;unfold Zr
 generalize m*n=k at *;have h1:=hs.1;have h2:=hs.2;clear hm hn htab hb0 hs;go_enter func244,ntmps244
 go_wp2_with fail
 refine HC.o.mono ?_;rintro e w1 ⟨rfl,hb1⟩;have HB:=hbt u6 hb1;obtain⟨hc,hf⟩:=fM hb1;have hz:w.heap.size+2<w1.heap.size:=by have:=hb1.size;simp at this;omega
 clear hb1;go_wp2;refine bodyPost_ret (v:=.agg #[.int .i64 r,.string (Sn k)]) (by simp[results,results244,go_sem,hc]) rfl ⟨rfl,?_⟩;repeat (first|exact HB.o|refine Below.setCell ?_ (by simp<;>omega) _|refine Below.alloc ?_ (by simp<;>omega) _|refine Below.drew ?_)
theorem sK (t:Int)(b:ByteArray)(w:World)(hl:Zz w) :
 CR 278 #[.agg #[.int .i64 0,.string ⟨#[48]⟩],.agg #[.int .i64 t,.string b]] w (.agg #[.int .i64 t,.string b]):=by
 obtain⟨h0,h1,h2⟩:=hl;have n1:1<w.heap.size+1+1:=by omega
 have n2:1<w.heap.size+1:=by omega
 go_enter func278,ntmps278
 go_wp2;refine bodyPost_ret (v:=.agg #[.int .i64 t,.string b]) (by simp[results,results278,go_sem]) rfl ⟨rfl,?_⟩;repeat (first|exact Below.refl _ _|refine Below.setCell ?_ (by simp<;>omega) _|refine Below.alloc ?_ (by simp<;>omega) _|refine Below.drew ?_)
theorem kv (s:Int)(hs:s≠0)(b:ByteArray)(v:ByteArray)(t:Int)(w:World)(hl:Zz w) :
 CR 278 #[.agg #[.int .i64 s,.string b],.agg #[.int .i64 t,.string v]] w (.agg #[.int .i64 s,.string b]):=by
 obtain⟨h0,h1,h2⟩:=hl;have n1:1<w.heap.size+1+1:=by omega
 have n2:1<w.heap.size+1:=by omega
 have hs1:(s==0)=false:=by simpa using hs
 have hs2:¬ s=0:=hs;go_enter func278,ntmps278
 go_wp2;refine bodyPost_ret (v:=.agg #[.int .i64 s,.string b]) (by simp[results,results278,go_sem]) rfl ⟨rfl,?_⟩;repeat (first|exact Below.refl _ _|refine Below.setCell ?_ (by simp<;>omega) _|refine Below.alloc ?_ (by simp<;>omega) _|refine Below.drew ?_)
theorem oo (s t:Int)(n:Nat)(h1 : -1≤t)(h2:t≤1)(hst:s = -t)(w:World)(hl:Zz w) :
 CR 277 #[Zr s n,Zr t n] w (.agg #[.int .i64 0,.string ⟨#[48]⟩]):=by
 have HN:=hid (fun W=>gz t (Sn n) h1 h2 W);rw[← hst]at HN;unfold Zr
 have hb0:=((((Below.refl w.heap.size w).alloc (Nat.le_refl _) (.cells #[.int .i64 s,.string (Sn n)] 172)).alloc (by simp) (.cells #[.int .i64 t,.string (Sn n)] 172)).alloc (by simp;omega) (.cells #[.int .i64 0,.string ⟨#[]⟩] 172));have u6:=hid hb0;obtain⟨z0,z1,z2⟩:=hl.on hb0;clear hst h1 h2 hb0;go_enter func277,ntmps277
 go_wp2;go_region_with (go_at_call 280;go_must (refine(HN.o _).mono ?_;rintro e w1 ⟨rfl,hb1⟩;obtain⟨hc1,hf1⟩:=fM hb1;have hz1:w.heap.size+2<w1.heap.size:=by have:=hb1.size;simp at this;omega))
 all_goals
  go_wp2;refine bodyPost_ret (v:=.agg #[.int .i64 0,.string ⟨#[48]⟩]) (by simp[results,results277,go_sem,hc1]) rfl ⟨rfl,?_⟩;repeat (first|exact u6.o.trans (hb1.mono u6.o.size)|exact u6.o.drew.trans (hb1.mono u6.o.drew.size)|refine Below.setCell ?_ (by simp<;>omega) _|refine Below.alloc ?_ (by simp<;>omega) _|refine Below.drew ?_)
