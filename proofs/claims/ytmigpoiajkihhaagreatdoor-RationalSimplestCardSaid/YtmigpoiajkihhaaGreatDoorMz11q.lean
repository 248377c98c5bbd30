/- Texts of this proof, one behind the other. -/
import Derived.Test.YtmigpoiajkihhaaGreatDoorMz10q
import Derived.Deep.RegionHeld3
open Go.Proofs.Tryz
namespace Go.Proofs.YtmigpoiajkihhaaGreatDoor
open Go.RowKit Go.Gb
def Sn (n:Nat):ByteArray:=⟨(Lib.decDigits n).toArray⟩
theorem bO (n:Nat):(Sn n).data.toList=Lib.decDigits n:=by simp[Sn]
theorem dR (n:Nat):vld (Sn n).data.toList=true:=by rw[bO];exact mq n
theorem bL (n:Nat):aB (Sn n).data.toList=n:=by rw[bO];exact fJ n
theorem z4i {a:ByteArray}(h:vld a.data.toList=true):a=Sn (aB a.data.toList):=by
 cases a with
 | mk d =>
   unfold Sn
   congr 1
   rw[jB _ h]
theorem z2c {x y:Nat}(h:Sn x=Sn y):x=y:=by rw[← bL x,← bL y,h]
def Sm (k n:Nat):Prop:=n<10^k
theorem Sm.mono {k l n:Nat}(h:Sm k n)(hkl:k≤l):Sm l n:=Nat.lt_of_lt_of_le h (Nat.pow_le_pow_right (by decide) hkl)
theorem Sm.le {k m n:Nat}(h:Sm k n)(hmn:m≤n):Sm k m:=Nat.lt_of_le_of_lt hmn h
theorem Sm.add {k m n:Nat}(hm:Sm k m)(hn:Sm k n):Sm (k+1) (m+n):=by
 unfold Sm at *;rw[Nat.pow_succ];omega
theorem Sm.mul {k l m n:Nat}(hm:Sm k m)(hn:Sm l n):Sm (k+l) (m*n):=by
 unfold Sm at *
 rw[Nat.pow_add]
 rcases Nat.eq_zero_or_pos n with h|h
 · rw[h,Nat.mul_zero];exact Nat.mul_pos (Nat.pow_pos (by decide)) (Nat.pow_pos (by decide))
 · exact Nat.mul_lt_mul_of_lt_of_le hm (Nat.le_of_lt hn) (Nat.pow_pos (by decide))
theorem Sm.of {a:ByteArray}(h:vld a.data.toList=true){k:Nat}(hl:a.size≤k):Sm k (aB a.data.toList):=by
 have h1:=gF _ (bi h)
 exact Nat.lt_of_lt_of_le h1 (Nat.pow_le_pow_right (by decide) (by rw[ax];exact hl))
theorem qE:∀ (k n:Nat),Sm k n→0<k→(Lib.decDigits n).length≤k
 | 0,_,_,h=>absurd h (by omega)
 | 1,n,h,_=>by
   have:n<10:=by simpa [Sm] using h
   rw[Lib.decDigits,dif_pos this];simp
 | k+2,n,h,_=>by
   by_cases h10:n<10
   · rw[Lib.decDigits,dif_pos h10];simp
   · rw[Lib.decDigits,dif_neg h10,List.length_append]
     have:=qE (k+1) (n / 10) (by unfold Sm at *;rw[Nat.pow_succ]at h;omega) (by omega)
     simp;omega
theorem gY {k n:Nat}(h:Sm k n)(hk:0<k):(Sn n).size≤k:=by
 have:=qE k n h hk
 rw[← bO,ax]at this
 exact this
theorem gq {k n:Nat}(h:Sm k n)(hk:0<k):(ah n).length≤k:=by
 have h1:=cz (bi (dR n)) k (by rw[ax];have:=gY h hk;omega)
 rwa [bL]at h1
def Fit (n:Nat):Prop:=Sm 2000 n
theorem Fit.size {n:Nat}(h:Fit n):(Sn n).size≤2000:=gY h (by decide)
theorem Fit.max {n:Nat}(h:Fit n):(Sn n).size≤maxLen:=by have:=h.size;unfold maxLen;omega
theorem z2m (x:Nat)(hx:Fit x)(w:World) :
 Calls Tryz.prog 122 #[.string (Sn x)] w fun e w'=>e=.returned (.bool true)∧w=w' :=
 bE (Sn x) (dR x) hx.max w
theorem ql (x y:Nat)(hx:Fit x)(hy:Fit y)(w:World) :
 Calls Tryz.prog 204 #[.string (Sn x),.string (Sn y)] w fun e w'=>e=.returned (.tuple #[.int .i64 (cmpN x y),.int .i64 0])∧w=w':=by
 have h:=vR (Sn x) (Sn y) (dR x) (dR y) hx.max hy.max w
 rwa [bL,bL]at h
theorem nAdd (x y:Nat)(hx:Fit x)(hy:Fit y)(w:World)(htab:Tb w) :
 CR 239 #[.string (Sn x),.string (Sn y)] w (.tuple #[.string (Sn (x+y)),.int .i64 0]):=by
 have sx:=hx.size
 have sy:=hy.size
 by_cases hs:(Sn x).size≤18∧(Sn y).size≤18
 · have h:=z0p (Sn x) (Sn y) (dR x) (dR y) hs.1 hs.2 w htab
   rwa [bL,bL]at h
 · have hxy:x≠0∨y≠0:=by
    rcases Nat.eq_zero_or_pos x with h0|h0
    · rcases Nat.eq_zero_or_pos y with h1|h1
      · exfalso
        subst h0 h1
        have:(Sn 0).size≤1:=gY (k:=1) (by simp[Sm]) (by decide)
        omega
      · right;omega
    · left;omega
   have h:=z1V (Sn x) (Sn y) (dR x) (dR y) (by omega) (by omega) (by omega) (by
    rw[bL,bL]
    exact z3f x y hxy (Nat.le_trans (gq hx (by decide)) (by decide)) (Nat.le_trans (gq hy (by decide)) (by decide))) w htab
   rwa [bL,bL]at h
theorem nSub (x y:Nat)(hx:Fit x)(hyx:y≤x)(w:World)(htab:Tb w) :
 CR 238 #[.string (Sn x),.string (Sn y)] w (.tuple #[.string (Sn (x-y)),.int .i64 0]):=by
 have sx:=hx.size
 have sy:=Fit.size (Sm.le hx hyx)
 have h:=z3g (Sn x) (Sn y) (dR x) (dR y) (by rw[bL,bL];exact hyx) (by omega) (by omega) w htab
 rwa [bL,bL]at h
theorem nMul (x y:Nat)(hx:Fit x)(hy:Fit y)(w:World)(htab:Tb w) :
 CR 183 #[.string (Sn x),.string (Sn y)] w (.tuple #[.string (Sn (x*y)),.int .i64 0]):=by
 have sx:=hx.size
 have sy:=hy.size
 have h:=z3i (Sn x) (Sn y) (dR x) (dR y) (by omega) (by omega) w htab
 rwa [bL,bL]at h
theorem z2N (x y:Nat)(hx:Fit x)(hy:Fit y)(h0:y≠0)(w:World)(htab:Tb w) :
 CR 178 #[.string (Sn x),.string (Sn y)] w (.tuple #[.string (Sn (x / y)),.string (Sn (x%y)),.int .i64 0]):=by
 have sx:=hx.size
 have sy:=hy.size
 have h:=yt (Sn x) (Sn y) (dR x) (dR y) (by rw[bL];exact h0) (by omega) (by omega) w htab
 rwa [bL,bL]at h
end Go.Proofs.YtmigpoiajkihhaaGreatDoor
set_option maxRecDepth 100000
set_option maxHeartbeats 20000000
namespace Go.Proofs.YtmigpoiajkihhaaGreatDoor
open Go.RowKit Go.Gb
theorem eP {W w1:World}(hb:Below W.heap.size W w1):(∀ b o,b<W.heap.size→w1.cell? ⟨b,o,none⟩=W.cell? ⟨b,o,none⟩)∧(∀ b o,b<W.heap.size→w1.frozen? ⟨b,o,none⟩=W.frozen? ⟨b,o,none⟩) :=
 ⟨fun b o h=>hb.cell (p:=⟨b,o,none⟩) h,fun b o h=>hb.frozen (p:=⟨b,o,none⟩) h⟩
def Zz (w:World):Prop:=0<w.heap.size∧w.cell? ⟨0,0,none⟩=some (.int .i64 0)∧w.cell? ⟨0,1,none⟩=some (.string ⟨#[48]⟩)
theorem Zz.on {w w':World}(h:Zz w)(hb:Below w.heap.size w w'):Zz w' :=
 ⟨Nat.lt_of_lt_of_le h.1 hb.size,(hb.cell (p:=⟨0,0,none⟩) h.1).trans h.2.1,(hb.cell (p:=⟨0,1,none⟩) h.1).trans h.2.2⟩
structure La (w:World):Prop where
 tb:Tb w
 zz:Zz w
theorem La.on {w w':World}(h:La w)(hb:Below w.heap.size w w'):La w':=⟨h.tb.on hb,h.zz.on hb⟩
theorem uq:Sn 0=⟨#[48]⟩:=by decide +kernel
theorem z3s:Sn 1=⟨#[49]⟩:=by decide +kernel
theorem pI (n:Nat):(Sn n).toList=Lib.decDigits n:=by rw[toList_data,bO]
theorem yO {x y:Nat}(h:x≠y):((Sn x).toList==(Sn y).toList)=false:=by
 rw[beq_eq_false_iff_ne,pI,pI]
 exact fun h2=>h (z2Y h2)
theorem yN {x:Nat}(h:x≠0):((Sn x).toList==[48])=false:=by
 rw[beq_eq_false_iff_ne,pI]
 intro h2
 apply h
 rw[← fJ x,h2];rfl
def Zv (z:Int):Value:=.agg #[.int .i64 z.sign,.string (Sn z.natAbs)]
def Sz (z:Int):ByteArray:=if z<0 then ⟨(45 :: Lib.decDigits z.natAbs).toArray⟩ else Sn z.natAbs
theorem iV {n:Nat}(h:n≠0):Sz (-(n:Int))=⟨(45 :: Lib.decDigits n).toArray⟩:=by
 unfold Sz;rw[if_pos (by omega),Int.natAbs_neg,Int.natAbs_natCast]
theorem dw (n:Nat):Sz (n:Int)=Sn n:=by
 unfold Sz;rw[if_neg (by omega),Int.natAbs_natCast]
theorem fZ {n:Nat}(h:n≠0):Zv (-(n:Int))=.agg #[.int .i64 (-1),.string (Sn n)]:=by
 unfold Zv;rw[Int.natAbs_neg,Int.natAbs_natCast,Int.sign_neg,Int.sign_natCast_of_ne_zero h]
theorem fV {n:Nat}(h:n≠0):Zv (n:Int)=.agg #[.int .i64 1,.string (Sn n)]:=by
 unfold Zv;rw[Int.natAbs_natCast,Int.sign_natCast_of_ne_zero h]
theorem fU:Zv 0=.agg #[.int .i64 0,.string ⟨#[48]⟩]:=by
 unfold Zv;rw[← uq];rfl
theorem bK (z:Int):(∃ n:Nat,n≠0∧z = -(n:Int))∨z=0∨∃ n:Nat,n≠0∧z=(n:Int):=by
 rcases Int.lt_trichotomy z 0 with h|h|h
 · left;exact⟨z.natAbs,by omega,by omega⟩
 · right;left;exact h
 · right;right;exact⟨z.natAbs,by omega,by omega⟩
def FitZ (z:Int):Prop:=Fit z.natAbs
theorem FitZ.neg {n:Nat}(h:FitZ (-(n:Int))):Fit n:=by unfold FitZ at h;rwa [Int.natAbs_neg,Int.natAbs_natCast]at h
theorem FitZ.nat {n:Nat}(h:FitZ (n:Int)):Fit n:=by unfold FitZ at h;rwa [Int.natAbs_natCast]at h
theorem Fit.neg {n:Nat}(h:Fit n):FitZ (-(n:Int)):=by unfold FitZ;rwa [Int.natAbs_neg,Int.natAbs_natCast]
theorem Fit.nat {n:Nat}(h:Fit n):FitZ (n:Int):=by unfold FitZ;rwa [Int.natAbs_natCast]
theorem fit0:Fit 0:=(show Sm 1 0 by simp[Sm]).mono (by decide)
theorem fit1:Fit 1:=(show Sm 1 1 by simp[Sm]).mono (by decide)
theorem fu (s:Int)(b:ByteArray)(h1 : -1≤s)(h2:s≤1)(w:World) :
 CR 162 #[.agg #[.int .i64 s,.string b]] w (.agg #[.int .i64 (-s),.string b]):=by
 go_enter func162,ntmps162
 go_wp2
 refine bodyPost_ret (v:=.agg #[.int .i64 (-s),.string b]) (by simp[results,results162,go_sem]) rfl ⟨rfl,?_⟩
 repeat (first|exact Below.refl _ _|refine Below.setCell ?_ (by simp) _|refine Below.alloc ?_ (by simp) _|refine Below.drew ?_)
theorem gQ (z:Int)(w:World) :
 CR 162 #[Zv z] w (Zv (-z)):=by
 have h:=fu z.sign (Sn z.natAbs) (by rcases Int.sign_trichotomy z with h|h|h<;>omega) (by rcases Int.sign_trichotomy z with h|h|h<;>omega) w
 unfold Zv
 rw[Int.sign_neg,Int.natAbs_neg]
 exact h
theorem ig (z:Int)(hf:FitZ z)(w:World) :
 CR 105 #[Zv z] w (.string (Sz z)):=by
 rcases bK z with⟨n,hn,rfl⟩|rfl|⟨n,hn,rfl⟩
 · rw[fZ hn,iV hn]
   have hadd:=run_string_add_sum (P:=Tryz.prog) (w.alloc (.cells #[.int .i64 (-1),.string (Sn n)] 93)) ⟨#[45]⟩ (Sn n) (by have:=hf.neg.size;have e:(⟨#[45]⟩:ByteArray).size=1:=rfl;omega)
   clear hn hf
   go_enter func105,ntmps105
   go_wp2
   go_ret
   refine⟨?_,(Below.refl _ _).alloc (Nat.le_refl _) _⟩
   have e:(⟨#[45]⟩:ByteArray)++Sn n=⟨(45 :: Lib.decDigits n).toArray⟩:=by
    apply ByteArray.ext
    apply Array.ext'
    simp[Sn]
   rw[e]
   rfl
 · rw[fU,show Sz 0=⟨#[48]⟩from(dw 0).trans uq]
   go_enter func105,ntmps105
   go_wp2
   go_ret
   exact⟨rfl,(Below.refl _ _).alloc (Nat.le_refl _) _⟩
 · rw[fV hn,dw]
   go_enter func105,ntmps105
   go_wp2
   go_ret
   exact⟨rfl,(Below.refl _ _).alloc (Nat.le_refl _) _⟩
theorem ut (s:Int)(w:World)(hz:Zz w) :
 CR 123 #[.int .i64 s,.string ⟨#[48]⟩] w (Zv 0):=by
 rw[fU]
 obtain⟨h0,h1,h2⟩:=hz
 go_enter func123,ntmps123
 go_wp2
 refine bodyPost_ret (v:=.agg #[.int .i64 0,.string ⟨#[48]⟩]) (by simp[results,results123,go_sem]) rfl ⟨rfl,?_⟩
 repeat (first|exact Below.refl _ _|refine Below.setCell ?_ (by simp) _|refine Below.alloc ?_ (by simp) _|refine Below.drew ?_)
theorem uu (s:Int)(n:Nat)(hn:n≠0)(w:World) :
 CR 123 #[.int .i64 s,.string (Sn n)] w (.agg #[.int .i64 s,.string (Sn n)]):=by
 have h0:=yN hn
 clear hn
 go_enter func123,ntmps123
 go_wp2
 refine bodyPost_ret (v:=.agg #[.int .i64 s,.string (Sn n)]) (by simp[results,results123,go_sem]) rfl ⟨rfl,?_⟩
 repeat (first|exact Below.refl _ _|refine Below.setCell ?_ (by simp) _|refine Below.alloc ?_ (by simp) _|refine Below.drew ?_)
theorem kU (s:Int)(n:Nat)(z:Int)(hz:z=s*(n:Int))(hs:s=1∨s = -1)(w:World)(hl:Zz w) :
 CR 123 #[.int .i64 s,.string (Sn n)] w (Zv z):=by
 by_cases hn:n=0
 · subst hn
   obtain rfl:z=0:=by rw[hz];simp
   rw[uq]
   exact ut s w hl
 · have h:=uu s n hn w
   rcases hs with rfl|rfl
   · rw[show z=(n:Int) by omega,fV hn];exact h
   · rw[show z = -(n:Int) by omega,fZ hn];exact h
open Go.RowKit
abbrev CL (f : FuncId) (args : Array Value) (v : Value) : Prop := ∀ W, La W → Calls Tryz.prog f args W fun e w' => e = .returned v ∧ Below W.heap.size W w'
end Go.Proofs.YtmigpoiajkihhaaGreatDoor
set_option maxRecDepth 100000
set_option maxHeartbeats 20000000
open Go.Lib (hid)
namespace Go.Proofs.YtmigpoiajkihhaaGreatDoor
open Go.RowKit Go.Gb
def vldZ (l:List UInt8):Bool:=match l with
 | []=>false
 | c :: t=>if c=45 then vld t && !(t==[48]) else vld (c :: t)
def zval (l:List UInt8):Int:=match l with
 | []=>0
 | c :: t=>if c=45 then -(aB t:Int) else (aB (c :: t):Int)
theorem jv {n:Nat}:∃ c t,Lib.decDigits n=c :: t∧c≠45:=by
 cases h:Lib.decDigits n with
 | nil=>exact absurd h (iA n)
 | cons c t =>
   refine⟨c,t,rfl,?_⟩
   have h1:=iL n
   rw[h]at h1
   simp only[List.all_cons,Bool.and_eq_true]at h1
   have h2:=(eH c).1 h1.1
   intro h3;subst h3;simp at h2
theorem pz (n:Nat):vldZ (Lib.decDigits n)=true:=by
 obtain⟨c,t,h,hc⟩:=jv (n:=n)
 have hv:=mq n
 rw[h]at hv ⊢
 unfold vldZ
 simp only[if_neg hc,hv]
theorem lT (n:Nat):zval (Lib.decDigits n)=(n:Int):=by
 obtain⟨c,t,h,hc⟩:=jv (n:=n)
 have hv:=fJ n
 rw[h]at hv ⊢
 unfold zval
 simp only[if_neg hc,hv]
theorem z4z {n:Nat}(h:Lib.decDigits n=[48]):n=0:=by rw[← fJ n,h];rfl
theorem z0y {n:Nat}(hn:n≠0):vldZ (45 :: Lib.decDigits n)=true:=by
 have h:(Lib.decDigits n==[48])=false:=beq_eq_false_iff_ne.2 (fun h=>hn (z4z h))
 unfold vldZ
 simp[mq n,h]
theorem z0q (n:Nat):zval (45 :: Lib.decDigits n) = -(n:Int):=by
 unfold zval
 simp[fJ n]
theorem yG {a:ByteArray}(h:vldZ a.data.toList=true):a=Sz (zval a.data.toList):=by
 cases a with
 | mk d =>
   cases hl:d.toList with
   | nil=>simp[hl,vldZ]at h
   | cons c t =>
     simp only[hl]at h ⊢
     by_cases hc:c=45
     · subst hc
       simp only[vldZ,if_true,Bool.and_eq_true]at h
       obtain⟨h1,h2⟩:=h
       have hd:=jB t h1
       have hne:aB t≠0:=by
        intro h0
        rw[h0,Lib.decDigits_one (by decide)]at hd
        rw[← hd]at h2
        simp at h2
       have e:zval (45 :: t) = -(aB t:Int):=by simp[zval]
       rw[e,iV hne,hd,← hl]
     · simp only[vldZ,if_neg hc]at h
       have hd:=jB (c :: t) h
       have e:zval (c :: t)=(aB (c :: t):Int):=by simp[zval,hc]
       rw[e,dw]
       unfold Sn
       rw[hd,← hl]
theorem z3p (z:Int):vldZ (Sz z).data.toList=true:=by
 rcases bK z with⟨n,hn,rfl⟩|rfl|⟨n,hn,rfl⟩
 · rw[iV hn];simpa using z0y hn
 · rw[show Sz 0=Sn 0 from dw 0,bO];exact pz 0
 · rw[dw,bO];exact pz n
theorem vY (z:Int):zval (Sz z).data.toList=z:=by
 rcases bK z with⟨n,hn,rfl⟩|rfl|⟨n,hn,rfl⟩
 · rw[iV hn];simpa using z0q n
 · rw[show Sz 0=Sn 0 from dw 0,bO];exact lT 0
 · rw[dw,bO];exact lT n
theorem qF (l:List UInt8)(w:World) :
 Calls Tryz.prog 66 #[.string ⟨(45 :: l).toArray⟩,.string ⟨#[45]⟩] w fun e w'=>e=.returned (.tuple #[.string ⟨l.toArray⟩,.bool true])∧w=w':=by
 refine(Tryz.strings_CutPrefix _ _ w).mono ?_
 rintro e w' ⟨rfl,rfl⟩
 refine⟨?_,rfl⟩
 simp[Lib.trimPrefix,Lib.hasPrefix,List.isPrefixOf]
theorem vg (s:ByteArray)(h:∀ t,s.data.toList≠45 :: t)(w:World) :
 Calls Tryz.prog 66 #[.string s,.string ⟨#[45]⟩] w fun e w'=>e=.returned (.tuple #[.string s,.bool false])∧w=w':=by
 refine(Tryz.strings_CutPrefix _ _ w).mono ?_
 rintro e w' ⟨rfl,rfl⟩
 refine⟨?_,rfl⟩
 have hp:Lib.hasPrefix s.data.toList [45]=false:=by
  unfold Lib.hasPrefix
  cases hl:s.data.toList with
  | nil=>rfl
  | cons c t =>
    have:¬ 45=c:=by intro hc;subst hc;exact h t hl
    simp[List.isPrefixOf,this]
 have e:(⟨#[45]⟩:ByteArray).data.toList=[45]:=rfl
 rw[e,hp]
 unfold Lib.trimPrefix
 rw[hp]
 cases s
 simp
def Zno:Value:=.agg #[.int .i64 0,.string ⟨#[]⟩]
theorem z0Q (n:Nat)(hn:n≠0)(hf:Fit n)(w:World) :
 CR 76 #[.string ⟨(45 :: Lib.decDigits n).toArray⟩] w (.tuple #[.agg #[.int .i64 (-1),.string (Sn n)],.bool true]):=by
 have HC:=hid (qF (Lib.decDigits n))
 rw[show(⟨(Lib.decDigits n).toArray⟩:ByteArray)=Sn n from rfl]at HC
 have HV:=hid (z2m n hf)
 have h0:=yN hn
 clear hn hf
 go_enter func76,ntmps76
 go_wp2_with fail
 refine(HC.out _).mono ?_
 rintro e w' ⟨rfl,rfl⟩
 go_wp2_with fail
 refine(HV.out _).mono ?_
 rintro e w' ⟨rfl,rfl⟩
 go_wp2
 refine bodyPost_ret (v:=.tuple #[.agg #[.int .i64 (-1),.string (Sn n)],.bool true]) (by simp[results,results76,go_sem]) rfl ⟨rfl,?_⟩
 repeat (first|exact Below.refl _ _|refine Below.setCell ?_ (by simp) _|refine Below.alloc ?_ (by simp) _|refine Below.drew ?_)
theorem z4w {n:Nat}:∀ t,(Sn n).data.toList≠45 :: t:=by
 intro t h
 rw[bO]at h
 obtain⟨c,t',h2,hc⟩:=jv (n:=n)
 rw[h2]at h
 injection h with h3 h4
 exact hc h3
theorem wG (n:Nat)(hf:Fit n)(w:World)(hl:Zz w) :
 CR 76 #[.string (Sn n)] w (.tuple #[Zv (n:Int),.bool true]):=by
 have HC:=hid (vg (Sn n) z4w)
 have HV:=hid (z2m n hf)
 have hb0:=(Below.refl w.heap.size w).alloc (Nat.le_refl _) (.cells #[.int .i64 0,.string ⟨#[]⟩] 93)
 have HS:=hid (kU 1 n (n:Int) (by omega) (Or.inl rfl) _ (hl.on hb0))
 unfold Zv at *
 generalize (n:Int).sign=s at *
 generalize Sn (n:Int).natAbs=b at *
 clear hf hl hb0
 go_enter func76,ntmps76
 go_wp2_with fail
 refine(HC.out _).mono ?_
 rintro e w' ⟨rfl,rfl⟩
 go_wp2_with fail
 refine(HV.out _).mono ?_
 rintro e w' ⟨rfl,rfl⟩
 go_wp2_with fail
 refine HS.out.mono ?_
 rintro e w1 ⟨rfl,hb1⟩
 have HB:=hid (((Below.refl w.heap.size w).alloc (Nat.le_refl _) (.cells #[.int .i64 0,.string ⟨#[]⟩] 93)).trans (hb1.mono (by simp)))
 obtain⟨hc,hf⟩:=eP hb1
 have hz:w.heap.size<w1.heap.size:=by have:=hb1.size;simp at this;omega
 clear hb1
 go_wp2
 refine bodyPost_ret (v:=.tuple #[.agg #[.int .i64 s,.string b],.bool true]) (by simp[results,results76,go_sem,hc]) rfl ⟨rfl,?_⟩
 repeat (first|exact HB.out|refine Below.setCell ?_ (by simp) _|refine Below.alloc ?_ (by simp) _|refine Below.drew ?_)
theorem jl (z:Int)(hf:FitZ z)(w:World)(hl:Zz w) :
 CR 76 #[.string (Sz z)] w (.tuple #[Zv z,.bool true]):=by
 rcases bK z with⟨n,hn,rfl⟩|rfl|⟨n,hn,rfl⟩
 · rw[iV hn,fZ hn];exact z0Q n hn hf.neg w
 · rw[show Sz 0=Sn 0 from dw 0];exact wG 0 fit0 w hl
 · rw[dw];exact wG n hf.nat w hl
theorem zi (l:List UInt8)(h:vld l=false)(hs:l.length≤maxLen)(w:World) :
 CR 76 #[.string ⟨(45 :: l).toArray⟩] w (.tuple #[Zno,.bool false]):=by
 have HC:=hid (qF l)
 have HV:=hid (lX ⟨l.toArray⟩ (by simpa using h) (by simpa [ByteArray.size] using hs))
 clear h hs
 go_enter func76,ntmps76
 go_wp2_with fail
 refine(HC.out _).mono ?_
 rintro e w' ⟨rfl,rfl⟩
 go_wp2_with fail
 refine(HV.out _).mono ?_
 rintro e w' ⟨rfl,rfl⟩
 go_wp2
 refine bodyPost_ret (v:=.tuple #[Zno,.bool false]) (by simp[results,results76,go_sem,Zno]) rfl ⟨rfl,?_⟩
 repeat (first|exact Below.refl _ _|refine Below.setCell ?_ (by simp) _|refine Below.alloc ?_ (by simp) _|refine Below.drew ?_)
theorem zh (w:World) :
 CR 76 #[.string ⟨(45 :: [48]).toArray⟩] w (.tuple #[Zno,.bool false]):=by
 have HC:=hid (qF [48])
 have HV:=hid (bE ⟨#[48]⟩ (by decide +kernel) (by decide))
 go_enter func76,ntmps76
 go_wp2_with fail
 refine(HC.out _).mono ?_
 rintro e w' ⟨rfl,rfl⟩
 go_wp2_with fail
 refine(HV.out _).mono ?_
 rintro e w' ⟨rfl,rfl⟩
 go_wp2
 refine bodyPost_ret (v:=.tuple #[Zno,.bool false]) (by simp[results,results76,go_sem,Zno]) rfl ⟨rfl,?_⟩
 repeat (first|exact Below.refl _ _|refine Below.setCell ?_ (by simp) _|refine Below.alloc ?_ (by simp) _|refine Below.drew ?_)
theorem rU (s:ByteArray)(h0:∀ t,s.data.toList≠45 :: t)(h:vld s.data.toList=false)(hs:s.size≤maxLen)(w:World) :
 CR 76 #[.string s] w (.tuple #[Zno,.bool false]):=by
 have HC:=hid (vg s h0)
 have HV:=hid (lX s h hs)
 clear h hs h0
 go_enter func76,ntmps76
 go_wp2_with fail
 refine(HC.out _).mono ?_
 rintro e w' ⟨rfl,rfl⟩
 go_wp2_with fail
 refine(HV.out _).mono ?_
 rintro e w' ⟨rfl,rfl⟩
 go_wp2
 refine bodyPost_ret (v:=.tuple #[Zno,.bool false]) (by simp[results,results76,go_sem,Zno]) rfl ⟨rfl,?_⟩
 repeat (first|exact Below.refl _ _|refine Below.setCell ?_ (by simp) _|refine Below.alloc ?_ (by simp) _|refine Below.drew ?_)
theorem z2C (s:ByteArray)(h:vldZ s.data.toList=false)(hs:s.size≤maxLen)(w:World) :
 CR 76 #[.string s] w (.tuple #[Zno,.bool false]):=by
 cases s with
 | mk d =>
   cases hl:d.toList with
   | nil =>
     refine rU ⟨d⟩ (fun t=>by simp[hl]) (by simp[hl,vld]) hs w
   | cons c t =>
     by_cases hc:c=45
     · subst hc
       have hd:d=(45 :: t).toArray:=by rw[← hl]
       have ht:t.length≤maxLen:=by
        have:d.size=t.length+1:=by rw[← Array.length_toList,hl];simp
        simp[ByteArray.size]at hs;omega
       simp only[hl,vldZ,if_true,Bool.and_eq_false_iff]at h
       rw[hd]
       rcases h with h|h
       · exact zi t h ht w
       · obtain rfl:t=[48]:=by simpa using h
         exact zh w
     · refine rU ⟨d⟩ (fun t'=>?_) ?_ hs w
       · simp only[hl];intro h2;injection h2 with h3 h4;exact hc h3
       · simp only[hl,vldZ,if_neg hc]at h ⊢;exact h
theorem bY (z:Int)(hf:FitZ z)(w:World)(hl:Zz w) :
 CR 33 #[.string (Sz z)] w (.bool true):=by
 have HR:=hid (jl z hf w hl)
 unfold Zv at HR
 generalize z.sign=s at *
 generalize Sn z.natAbs=b at *
 clear hf hl
 go_enter func33,ntmps33
 go_wp2_with fail
 refine HR.out.mono ?_
 rintro e w1 ⟨rfl,hb1⟩
 have HB:=hid hb1
 clear hb1
 go_wp2
 go_ret
 refine⟨rfl,?_⟩
 repeat (first|exact HB.out|refine Below.setCell ?_ (by have:=HB.out.size;simp;omega) _|refine Below.alloc ?_ (by have:=HB.out.size;simp;omega) _|refine Below.drew ?_)
theorem ma (a:ByteArray)(h:vldZ a.data.toList=false)(hs:a.size≤maxLen)(w:World) :
 CR 33 #[.string a] w (.bool false):=by
 have HR:=hid (z2C a h hs w)
 unfold Zno at HR
 clear h hs
 go_enter func33,ntmps33
 go_wp2_with fail
 refine HR.out.mono ?_
 rintro e w1 ⟨rfl,hb1⟩
 have HB:=hid hb1
 clear hb1
 go_wp2
 go_ret
 refine⟨rfl,?_⟩
 repeat (first|exact HB.out|refine Below.setCell ?_ (by have:=HB.out.size;simp;omega) _|refine Below.alloc ?_ (by have:=HB.out.size;simp;omega) _|refine Below.drew ?_)
end Go.Proofs.YtmigpoiajkihhaaGreatDoor
namespace Go.Gb
theorem z2h {X Y:Rat}(h1:X.num=Y.num)(h2:X.den=Y.den):X=Y:=Rat.ext h1 h2
theorem iI (num:Int)(den:Nat)(hd:den≠0):(mkRat num den).num=num / ((Nat.gcd num.natAbs den:Nat):Int)∧(mkRat num den).den=den / Nat.gcd num.natAbs den:=by
 rw[← Rat.normalize_eq_mkRat hd,Rat.normalize_eq hd]
 exact⟨rfl,rfl⟩
theorem zJ (X:Rat):(-X).num = -X.num∧(-X).den=X.den:=⟨rfl,rfl⟩
theorem kZ {X:Rat}(h:0<X.num):(X⁻¹).num=(X.den:Int)∧((X⁻¹).den:Int)=X.num:=by
 have e:X⁻¹=Rat.inv X:=rfl
 rw[e]
 unfold Rat.inv
 rw[dif_neg (by omega),dif_pos h]
 exact⟨rfl,by simp only;omega⟩
theorem qx {X:Rat}(h:X.num<0):(X⁻¹).num = -(X.den:Int)∧((X⁻¹).den:Int) = -X.num:=by
 have e:X⁻¹=Rat.inv X:=rfl
 rw[e]
 unfold Rat.inv
 rw[dif_pos h]
 exact⟨rfl,by simp only;omega⟩
theorem iC (X Y:Rat):X+Y=mkRat (X.num*(Y.den:Int)+Y.num*(X.den:Int)) (X.den*Y.den):=by
 have h1:=X.den_nz
 have h2:=Y.den_nz
 rw[Rat.add_def,Rat.normalize_eq_mkRat]
theorem kg (X Y:Rat):X*Y=mkRat (X.num*Y.num) (X.den*Y.den):=by
 rw[Rat.mul_def,Rat.normalize_eq_mkRat]
theorem rA (X Y:Rat):X-Y=mkRat (X.num*(Y.den:Int)-Y.num*(X.den:Int)) (X.den*Y.den):=by
 rw[Rat.sub_eq_add_neg,iC]
 show mkRat (X.num*(Y.den:Int) + -Y.num*(X.den:Int)) (X.den*Y.den)=_
 rw[Int.neg_mul];congr 1
theorem qC (X Y:Rat)(h:0<Y.num):X / Y=mkRat (X.num*(Y.den:Int)) (X.den*Y.num.toNat):=by
 obtain⟨e1,e2⟩:=kZ h
 rw[Rat.div_def,kg,e1]
 congr 2
 omega
theorem qD (X Y:Rat)(h:Y.num<0):X / Y=mkRat (-(X.num*(Y.den:Int))) (X.den*(-Y.num).toNat):=by
 obtain⟨e1,e2⟩:=qx h
 rw[Rat.div_def,kg,e1,Int.mul_neg]
 congr 2
 omega
def cmpQ (x y:Rat):Int:=if x<y then -1 else if y<x then 1 else 0
theorem z3a {x y:Rat}(h:x<y):cmpQ x y = -1:=by unfold cmpQ;rw[if_pos h]
theorem vo {x y:Rat}(h:y<x):cmpQ x y=1:=by
 unfold cmpQ;rw[if_neg (by grind),if_pos h]
theorem z0c (x:Rat):cmpQ x x=0:=by
 unfold cmpQ;rw[if_neg (by grind),if_neg (by grind)]
theorem iB (X Y:Rat)(a b:Int)(ha:a=X.num*(Y.den:Int))(hb:b=Y.num*(X.den:Int)):cmpQ X Y=if a<b then -1 else if b<a then 1 else 0:=by
 unfold cmpQ
 simp only[Rat.lt_iff,← ha,← hb]
theorem jC (x y:Rat):(x<y∧cmpQ x y = -1)∨(x=y∧cmpQ x y=0)∨(y<x∧cmpQ x y=1):=by
 by_cases h1:x<y
 · exact Or.inl ⟨h1,z3a h1⟩
 · by_cases h2:y<x
   · exact Or.inr (Or.inr ⟨h2,vo h2⟩)
   · have:x=y:=by grind
     subst this
     exact Or.inr (Or.inl ⟨rfl,z0c x⟩)
theorem tJ {x y:Rat}:cmpQ x y=0↔x=y:=by
 rcases jC x y with⟨h,e⟩|⟨h,e⟩|⟨h,e⟩<;>rw[e]
 · exact⟨fun h=>(by cases h),fun e=>(by subst e;exact absurd h Rat.lt_irrefl)⟩
 · exact⟨fun _=>h,fun _=>rfl⟩
 · exact⟨fun h=>(by cases h),fun e=>(by subst e;exact absurd h Rat.lt_irrefl)⟩
end Go.Gb
