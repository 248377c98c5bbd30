/- Texts of this proof, one behind the other. -/
import Derived.Test.YtmigpoiajkihhaaGreatDoorMz10q
import Derived.Deep.RegionHeld3
namespace Go.Proofs.YtmigpoiajkihhaaGreatDoor
open Go.RowKit Go.Gb
def Sn (n:Nat):ByteArray:=⟨(Lib.decDigits n).toArray⟩
theorem z0K (n:Nat):(Sn n).data.toList=Lib.decDigits n:=by simp[Sn]
theorem z1r (n:Nat):vld (Sn n).data.toList=true:=by rw[z0K];exact z5r n
theorem z0I (n:Nat):dval (Sn n).data.toList=n:=by rw[z0K];exact z1Z n
theorem zg5 {a:ByteArray}(h:vld a.data.toList=true):a=Sn (dval a.data.toList):=by
 cases a with
 | mk d =>
   unfold Sn
   congr 1
   rw[z3J _ h]
theorem zek {x y:Nat}(h:Sn x=Sn y):x=y:=by rw[← z0I x,← z0I y,h]
def Sm (k n:Nat):Prop:=n<10^k
theorem Sm.mono {k l n:Nat}(h:Sm k n)(hkl:k≤l):Sm l n:=Nat.lt_of_lt_of_le h (Nat.pow_le_pow_right (by decide) hkl)
theorem Sm.le {k m n:Nat}(h:Sm k n)(hmn:m≤n):Sm k m:=Nat.lt_of_le_of_lt hmn h
theorem Sm.add {k m n:Nat}(hm:Sm k m)(hn:Sm k n):Sm (k+1) (m+n):=by
 unfold Sm at *;rw[Nat.pow_succ];omega
theorem Sm.mul {k l m n:Nat}(hm:Sm k m)(hn:Sm l n):Sm (k+l) (m*n):=by
 unfold Sm at *
 rw[Nat.pow_add]
 rcases Nat.eq_zero_or_pos n with h|h
 · rw[h,Nat.mul_zero];exact Nat.mul_pos (Nat.pow_pos (by decide)) (Nat.pow_pos (by decide))
 · exact Nat.mul_lt_mul_of_lt_of_le hm (Nat.le_of_lt hn) (Nat.pow_pos (by decide))
theorem Sm.of {a:ByteArray}(h:vld a.data.toList=true){k:Nat}(hl:a.size≤k):Sm k (dval a.data.toList):=by
 have h1:=z2r _ (z0v h)
 exact Nat.lt_of_lt_of_le h1 (Nat.pow_le_pow_right (by decide) (by rw[z04];exact hl))
theorem z7B:∀ (k n:Nat),Sm k n→0<k→(Lib.decDigits n).length≤k
 | 0,_,_,h=>absurd h (by omega)
 | 1,n,h,_=>by
   have:n<10:=by simpa [Sm] using h
   rw[Lib.decDigits,dif_pos this];simp
 | k+2,n,h,_=>by
   by_cases h10:n<10
   · rw[Lib.decDigits,dif_pos h10];simp
   · rw[Lib.decDigits,dif_neg h10,List.length_append]
     have:=z7B (k+1) (n / 10) (by unfold Sm at *;rw[Nat.pow_succ]at h;omega) (by omega)
     simp;omega
theorem z2H {k n:Nat}(h:Sm k n)(hk:0<k):(Sn n).size≤k:=by
 have:=z7B k n h hk
 rw[← z0K,z04]at this
 exact this
theorem z2l {k n:Nat}(h:Sm k n)(hk:0<k):(digs n).length≤k:=by
 have h1:=z0V (z0v (z1r n)) k (by rw[z04];have:=z2H h hk;omega)
 rwa [z0I]at h1
def Fit (n:Nat):Prop:=Sm 2000 n
theorem Fit.size {n:Nat}(h:Fit n):(Sn n).size≤2000:=z2H h (by decide)
theorem Fit.max {n:Nat}(h:Fit n):(Sn n).size≤maxLen:=by have:=h.size;unfold maxLen;omega
theorem zeu (x:Nat)(hx:Fit x)(w:World) :
 Calls Tryz.prog 122 #[.string (Sn x)] w fun e w'=>e=.returned (.bool true)∧w=w' :=
 z0B (Sn x) (z1r x) hx.max w
theorem z7r (x y:Nat)(hx:Fit x)(hy:Fit y)(w:World) :
 Calls Tryz.prog 204 #[.string (Sn x),.string (Sn y)] w fun e w'=>e=.returned (.tuple #[.int .i64 (cmpN x y),.int .i64 0])∧w=w':=by
 have h:=z9X (Sn x) (Sn y) (z1r x) (z1r y) hx.max hy.max w
 rwa [z0I,z0I]at h
theorem nAdd (x y:Nat)(hx:Fit x)(hy:Fit y)(w:World)(htab:Tb w) :
 CR 239 #[.string (Sn x),.string (Sn y)] w (.tuple #[.string (Sn (x+y)),.int .i64 0]):=by
 have sx:=hx.size
 have sy:=hy.size
 by_cases hs:(Sn x).size≤18∧(Sn y).size≤18
 · have h:=zcP (Sn x) (Sn y) (z1r x) (z1r y) hs.1 hs.2 w htab
   rwa [z0I,z0I]at h
 · have hxy:x≠0∨y≠0:=by
    rcases Nat.eq_zero_or_pos x with h0|h0
    · rcases Nat.eq_zero_or_pos y with h1|h1
      · exfalso
        subst h0 h1
        have:(Sn 0).size≤1:=z2H (k:=1) (by simp[Sm]) (by decide)
        omega
      · right;omega
    · left;omega
   have h:=zee (Sn x) (Sn y) (z1r x) (z1r y) (by omega) (by omega) (by omega) (by
    rw[z0I,z0I]
    exact zfc x y hxy (Nat.le_trans (z2l hx (by decide)) (by decide)) (Nat.le_trans (z2l hy (by decide)) (by decide))) w htab
   rwa [z0I,z0I]at h
theorem nSub (x y:Nat)(hx:Fit x)(hyx:y≤x)(w:World)(htab:Tb w) :
 CR 238 #[.string (Sn x),.string (Sn y)] w (.tuple #[.string (Sn (x-y)),.int .i64 0]):=by
 have sx:=hx.size
 have sy:=Fit.size (Sm.le hx hyx)
 have h:=zfd (Sn x) (Sn y) (z1r x) (z1r y) (by rw[z0I,z0I];exact hyx) (by omega) (by omega) w htab
 rwa [z0I,z0I]at h
theorem nMul (x y:Nat)(hx:Fit x)(hy:Fit y)(w:World)(htab:Tb w) :
 CR 183 #[.string (Sn x),.string (Sn y)] w (.tuple #[.string (Sn (x*y)),.int .i64 0]):=by
 have sx:=hx.size
 have sy:=hy.size
 have h:=zff (Sn x) (Sn y) (z1r x) (z1r y) (by omega) (by omega) w htab
 rwa [z0I,z0I]at h
theorem zeU (x y:Nat)(hx:Fit x)(hy:Fit y)(h0:y≠0)(w:World)(htab:Tb w) :
 CR 178 #[.string (Sn x),.string (Sn y)] w (.tuple #[.string (Sn (x / y)),.string (Sn (x%y)),.int .i64 0]):=by
 have sx:=hx.size
 have sy:=hy.size
 have h:=zbh (Sn x) (Sn y) (z1r x) (z1r y) (by rw[z0I];exact h0) (by omega) (by omega) w htab
 rwa [z0I,z0I]at h
end Go.Proofs.YtmigpoiajkihhaaGreatDoor
set_option maxRecDepth 100000
set_option maxHeartbeats 20000000
namespace Go.Proofs.YtmigpoiajkihhaaGreatDoor
open Go.RowKit Go.Gb
theorem z1F {W w1:World}(hb:Below W.heap.size W w1):(∀ b o,b<W.heap.size→w1.cell? ⟨b,o,none⟩=W.cell? ⟨b,o,none⟩)∧(∀ b o,b<W.heap.size→w1.frozen? ⟨b,o,none⟩=W.frozen? ⟨b,o,none⟩) :=
 ⟨fun b o h=>hb.cell (p:=⟨b,o,none⟩) h,fun b o h=>hb.frozen (p:=⟨b,o,none⟩) h⟩
def Zz (w:World):Prop:=0<w.heap.size∧w.cell? ⟨0,0,none⟩=some (.int .i64 0)∧w.cell? ⟨0,1,none⟩=some (.string ⟨#[48]⟩)
theorem Zz.on {w w':World}(h:Zz w)(hb:Below w.heap.size w w'):Zz w' :=
 ⟨Nat.lt_of_lt_of_le h.1 hb.size,(hb.cell (p:=⟨0,0,none⟩) h.1).trans h.2.1,(hb.cell (p:=⟨0,1,none⟩) h.1).trans h.2.2⟩
structure La (w:World):Prop where
 tb:Tb w
 zz:Zz w
theorem La.on {w w':World}(h:La w)(hb:Below w.heap.size w w'):La w':=⟨h.tb.on hb,h.zz.on hb⟩
theorem z96:Sn 0=⟨#[48]⟩:=by decide +kernel
theorem zfp:Sn 1=⟨#[49]⟩:=by decide +kernel
theorem z6W (n:Nat):(Sn n).toList=Lib.decDigits n:=by rw[toList_data,z0K]
theorem zbz {x y:Nat}(h:x≠y):((Sn x).toList==(Sn y).toList)=false:=by
 rw[beq_eq_false_iff_ne,z6W,z6W]
 exact fun h2=>h (zf5 h2)
theorem zby {x:Nat}(h:x≠0):((Sn x).toList==[48])=false:=by
 rw[beq_eq_false_iff_ne,z6W]
 intro h2
 apply h
 rw[← z1Z x,h2];rfl
def Zv (z:Int):Value:=.agg #[.int .i64 z.sign,.string (Sn z.natAbs)]
def Sz (z:Int):ByteArray:=if z<0 then ⟨(45 :: Lib.decDigits z.natAbs).toArray⟩ else Sn z.natAbs
theorem z3l {n:Nat}(h:n≠0):Sz (-(n:Int))=⟨(45 :: Lib.decDigits n).toArray⟩:=by
 unfold Sz;rw[if_pos (by omega),Int.natAbs_neg,Int.natAbs_natCast]
theorem z18 (n:Nat):Sz (n:Int)=Sn n:=by
 unfold Sz;rw[if_neg (by omega),Int.natAbs_natCast]
theorem z2i {n:Nat}(h:n≠0):Zv (-(n:Int))=.agg #[.int .i64 (-1),.string (Sn n)]:=by
 unfold Zv;rw[Int.natAbs_neg,Int.natAbs_natCast,Int.sign_neg,Int.sign_natCast_of_ne_zero h]
theorem z2h {n:Nat}(h:n≠0):Zv (n:Int)=.agg #[.int .i64 1,.string (Sn n)]:=by
 unfold Zv;rw[Int.natAbs_natCast,Int.sign_natCast_of_ne_zero h]
theorem z2g:Zv 0=.agg #[.int .i64 0,.string ⟨#[48]⟩]:=by
 unfold Zv;rw[← z96];rfl
theorem z0H (z:Int):(∃ n:Nat,n≠0∧z = -(n:Int))∨z=0∨∃ n:Nat,n≠0∧z=(n:Int):=by
 rcases Int.lt_trichotomy z 0 with h|h|h
 · left;exact⟨z.natAbs,by omega,by omega⟩
 · right;left;exact h
 · right;right;exact⟨z.natAbs,by omega,by omega⟩
def FitZ (z:Int):Prop:=Fit z.natAbs
theorem FitZ.neg {n:Nat}(h:FitZ (-(n:Int))):Fit n:=by unfold FitZ at h;rwa [Int.natAbs_neg,Int.natAbs_natCast]at h
theorem FitZ.nat {n:Nat}(h:FitZ (n:Int)):Fit n:=by unfold FitZ at h;rwa [Int.natAbs_natCast]at h
theorem Fit.neg {n:Nat}(h:Fit n):FitZ (-(n:Int)):=by unfold FitZ;rwa [Int.natAbs_neg,Int.natAbs_natCast]
theorem Fit.nat {n:Nat}(h:Fit n):FitZ (n:Int):=by unfold FitZ;rwa [Int.natAbs_natCast]
theorem fit0:Fit 0:=(show Sm 1 0 by simp[Sm]).mono (by decide)
theorem fit1:Fit 1:=(show Sm 1 1 by simp[Sm]).mono (by decide)
theorem z1O (s:Int)(b:ByteArray)(h1 : -1≤s)(h2:s≤1)(w:World) :
 CR 162 #[.agg #[.int .i64 s,.string b]] w (.agg #[.int .i64 (-s),.string b]):=by
 go_enter Tryz.func162,Tryz.ntmps162
 go_wp2
 refine bodyPost_ret (v:=.agg #[.int .i64 (-s),.string b]) (by simp[results,Tryz.results162,go_sem]) rfl ⟨rfl,?_⟩
 repeat (first|exact Below.refl _ _|refine Below.setCell ?_ (by simp) _|refine Below.alloc ?_ (by simp) _|refine Below.drew ?_)
theorem z2B (z:Int)(w:World) :
 CR 162 #[Zv z] w (Zv (-z)):=by
 have h:=z1O z.sign (Sn z.natAbs) (by rcases Int.sign_trichotomy z with h|h|h<;>omega) (by rcases Int.sign_trichotomy z with h|h|h<;>omega) w
 unfold Zv
 rw[Int.sign_neg,Int.natAbs_neg]
 exact h
theorem z2L (z:Int)(hf:FitZ z)(w:World) :
 CR 105 #[Zv z] w (.string (Sz z)):=by
 rcases z0H z with⟨n,hn,rfl⟩|rfl|⟨n,hn,rfl⟩
 · rw[z2i hn,z3l hn]
   have hadd:=run_string_add_sum (P:=Tryz.prog) (w.alloc (.cells #[.int .i64 (-1),.string (Sn n)] 93)) ⟨#[45]⟩ (Sn n) (by have:=hf.neg.size;have e:(⟨#[45]⟩:ByteArray).size=1:=rfl;omega)
   clear hn hf
   go_enter Tryz.func105,Tryz.ntmps105
   go_wp2
   go_ret
   refine⟨?_,(Below.refl _ _).alloc (Nat.le_refl _) _⟩
   have e:(⟨#[45]⟩:ByteArray)++Sn n=⟨(45 :: Lib.decDigits n).toArray⟩:=by
    apply ByteArray.ext
    apply Array.ext'
    simp[Sn]
   rw[e]
   rfl
 · rw[z2g,show Sz 0=⟨#[48]⟩from(z18 0).trans z96]
   go_enter Tryz.func105,Tryz.ntmps105
   go_wp2
   go_ret
   exact⟨rfl,(Below.refl _ _).alloc (Nat.le_refl _) _⟩
 · rw[z2h hn,z18]
   go_enter Tryz.func105,Tryz.ntmps105
   go_wp2
   go_ret
   exact⟨rfl,(Below.refl _ _).alloc (Nat.le_refl _) _⟩
theorem z97 (s:Int)(w:World)(hz:Zz w) :
 CR 123 #[.int .i64 s,.string ⟨#[48]⟩] w (Zv 0):=by
 rw[z2g]
 obtain⟨h0,h1,h2⟩:=hz
 go_enter Tryz.func123,Tryz.ntmps123
 go_wp2
 refine bodyPost_ret (v:=.agg #[.int .i64 0,.string ⟨#[48]⟩]) (by simp[results,Tryz.results123,go_sem]) rfl ⟨rfl,?_⟩
 repeat (first|exact Below.refl _ _|refine Below.setCell ?_ (by simp) _|refine Below.alloc ?_ (by simp) _|refine Below.drew ?_)
theorem z98 (s:Int)(n:Nat)(hn:n≠0)(w:World) :
 CR 123 #[.int .i64 s,.string (Sn n)] w (.agg #[.int .i64 s,.string (Sn n)]):=by
 have h0:=zby hn
 clear hn
 go_enter Tryz.func123,Tryz.ntmps123
 go_wp2
 refine bodyPost_ret (v:=.agg #[.int .i64 s,.string (Sn n)]) (by simp[results,Tryz.results123,go_sem]) rfl ⟨rfl,?_⟩
 repeat (first|exact Below.refl _ _|refine Below.setCell ?_ (by simp) _|refine Below.alloc ?_ (by simp) _|refine Below.drew ?_)
theorem z4E (s:Int)(n:Nat)(z:Int)(hz:z=s*(n:Int))(hs:s=1∨s = -1)(w:World)(hl:Zz w) :
 CR 123 #[.int .i64 s,.string (Sn n)] w (Zv z):=by
 by_cases hn:n=0
 · subst hn
   obtain rfl:z=0:=by rw[hz];simp
   rw[z96]
   exact z97 s w hl
 · have h:=z98 s n hn w
   rcases hs with rfl|rfl
   · rw[show z=(n:Int) by omega,z2h hn];exact h
   · rw[show z = -(n:Int) by omega,z2i hn];exact h
open Go.RowKit
abbrev CL (f : FuncId) (args : Array Value) (v : Value) : Prop := ∀ W, La W → Calls Tryz.prog f args W fun e w' => e = .returned v ∧ Below W.heap.size W w'
end Go.Proofs.YtmigpoiajkihhaaGreatDoor
set_option maxRecDepth 100000
set_option maxHeartbeats 20000000
open Go.Lib (hid)
namespace Go.Proofs.YtmigpoiajkihhaaGreatDoor
open Go.RowKit Go.Gb
def vldZ (l:List UInt8):Bool:=match l with
 | []=>false
 | c :: t=>if c=45 then vld t && !(t==[48]) else vld (c :: t)
def zval (l:List UInt8):Int:=match l with
 | []=>0
 | c :: t=>if c=45 then -(dval t:Int) else (dval (c :: t):Int)
theorem z3F {n:Nat}:∃ c t,Lib.decDigits n=c :: t∧c≠45:=by
 cases h:Lib.decDigits n with
 | nil=>exact absurd h (z2R n)
 | cons c t =>
   refine⟨c,t,rfl,?_⟩
   have h1:=z3c n
   rw[h]at h1
   simp only[List.all_cons,Bool.and_eq_true]at h1
   have h2:=(z1D c).1 h1.1
   intro h3;subst h3;simp at h2
theorem z6S (n:Nat):vldZ (Lib.decDigits n)=true:=by
 obtain⟨c,t,h,hc⟩:=z3F (n:=n)
 have hv:=z5r n
 rw[h]at hv ⊢
 unfold vldZ
 simp only[if_neg hc,hv]
theorem z5g (n:Nat):zval (Lib.decDigits n)=(n:Int):=by
 obtain⟨c,t,h,hc⟩:=z3F (n:=n)
 have hv:=z1Z n
 rw[h]at hv ⊢
 unfold zval
 simp only[if_neg hc,hv]
theorem zgm {n:Nat}(h:Lib.decDigits n=[48]):n=0:=by rw[← z1Z n,h];rfl
theorem zcY {n:Nat}(hn:n≠0):vldZ (45 :: Lib.decDigits n)=true:=by
 have h:(Lib.decDigits n==[48])=false:=beq_eq_false_iff_ne.2 (fun h=>hn (zgm h))
 unfold vldZ
 simp[z5r n,h]
theorem zcQ (n:Nat):zval (45 :: Lib.decDigits n) = -(n:Int):=by
 unfold zval
 simp[z1Z n]
theorem zbr {a:ByteArray}(h:vldZ a.data.toList=true):a=Sz (zval a.data.toList):=by
 cases a with
 | mk d =>
   cases hl:d.toList with
   | nil=>simp[hl,vldZ]at h
   | cons c t =>
     simp only[hl]at h ⊢
     by_cases hc:c=45
     · subst hc
       simp only[vldZ,if_true,Bool.and_eq_true]at h
       obtain⟨h1,h2⟩:=h
       have hd:=z3J t h1
       have hne:dval t≠0:=by
        intro h0
        rw[h0,Lib.decDigits_one (by decide)]at hd
        rw[← hd]at h2
        simp at h2
       have e:zval (45 :: t) = -(dval t:Int):=by simp[zval]
       rw[e,z3l hne,hd,← hl]
     · simp only[vldZ,if_neg hc]at h
       have hd:=z3J (c :: t) h
       have e:zval (c :: t)=(dval (c :: t):Int):=by simp[zval,hc]
       rw[e,z18]
       unfold Sn
       rw[hd,← hl]
theorem zfm (z:Int):vldZ (Sz z).data.toList=true:=by
 rcases z0H z with⟨n,hn,rfl⟩|rfl|⟨n,hn,rfl⟩
 · rw[z3l hn];simpa using zcY hn
 · rw[show Sz 0=Sn 0 from z18 0,z0K];exact z6S 0
 · rw[z18,z0K];exact z6S n
theorem za3 (z:Int):zval (Sz z).data.toList=z:=by
 rcases z0H z with⟨n,hn,rfl⟩|rfl|⟨n,hn,rfl⟩
 · rw[z3l hn];simpa using zcQ n
 · rw[show Sz 0=Sn 0 from z18 0,z0K];exact z5g 0
 · rw[z18,z0K];exact z5g n
theorem z7C (l:List UInt8)(w:World) :
 Calls Tryz.prog 66 #[.string ⟨(45 :: l).toArray⟩,.string ⟨#[45]⟩] w fun e w'=>e=.returned (.tuple #[.string ⟨l.toArray⟩,.bool true])∧w=w':=by
 refine(Tryz.strings_CutPrefix _ _ w).mono ?_
 rintro e w' ⟨rfl,rfl⟩
 refine⟨?_,rfl⟩
 simp[Lib.trimPrefix,Lib.hasPrefix,List.isPrefixOf]
theorem z9D (s:ByteArray)(h:∀ t,s.data.toList≠45 :: t)(w:World) :
 Calls Tryz.prog 66 #[.string s,.string ⟨#[45]⟩] w fun e w'=>e=.returned (.tuple #[.string s,.bool false])∧w=w':=by
 refine(Tryz.strings_CutPrefix _ _ w).mono ?_
 rintro e w' ⟨rfl,rfl⟩
 refine⟨?_,rfl⟩
 have hp:Lib.hasPrefix s.data.toList [45]=false:=by
  unfold Lib.hasPrefix
  cases hl:s.data.toList with
  | nil=>rfl
  | cons c t =>
    have:¬ 45=c:=by intro hc;subst hc;exact h t hl
    simp[List.isPrefixOf,this]
 have e:(⟨#[45]⟩:ByteArray).data.toList=[45]:=rfl
 rw[e,hp]
 unfold Lib.trimPrefix
 rw[hp]
 cases s
 simp
def Zno:Value:=.agg #[.int .i64 0,.string ⟨#[]⟩]
theorem zdg (n:Nat)(hn:n≠0)(hf:Fit n)(w:World) :
 CR 76 #[.string ⟨(45 :: Lib.decDigits n).toArray⟩] w (.tuple #[.agg #[.int .i64 (-1),.string (Sn n)],.bool true]):=by
 have HC:=hid (z7C (Lib.decDigits n))
 rw[show(⟨(Lib.decDigits n).toArray⟩:ByteArray)=Sn n from rfl]at HC
 have HV:=hid (zeu n hf)
 have h0:=zby hn
 clear hn hf
 go_enter Tryz.func76,Tryz.ntmps76
 go_wp2_with fail
 refine(HC.out _).mono ?_
 rintro e w' ⟨rfl,rfl⟩
 go_wp2_with fail
 refine(HV.out _).mono ?_
 rintro e w' ⟨rfl,rfl⟩
 go_wp2
 refine bodyPost_ret (v:=.tuple #[.agg #[.int .i64 (-1),.string (Sn n)],.bool true]) (by simp[results,Tryz.results76,go_sem]) rfl ⟨rfl,?_⟩
 repeat (first|exact Below.refl _ _|refine Below.setCell ?_ (by simp) _|refine Below.alloc ?_ (by simp) _|refine Below.drew ?_)
theorem zgj {n:Nat}:∀ t,(Sn n).data.toList≠45 :: t:=by
 intro t h
 rw[z0K]at h
 obtain⟨c,t',h2,hc⟩:=z3F (n:=n)
 rw[h2]at h
 injection h with h3 h4
 exact hc h3
theorem zad (n:Nat)(hf:Fit n)(w:World)(hl:Zz w) :
 CR 76 #[.string (Sn n)] w (.tuple #[Zv (n:Int),.bool true]):=by
 have HC:=hid (z9D (Sn n) zgj)
 have HV:=hid (zeu n hf)
 have hb0:=(Below.refl w.heap.size w).alloc (Nat.le_refl _) (.cells #[.int .i64 0,.string ⟨#[]⟩] 93)
 have HS:=hid (z4E 1 n (n:Int) (by omega) (Or.inl rfl) _ (hl.on hb0))
 unfold Zv at *
 generalize (n:Int).sign=s at *
 generalize Sn (n:Int).natAbs=b at *
 clear hf hl hb0
 go_enter Tryz.func76,Tryz.ntmps76
 go_wp2_with fail
 refine(HC.out _).mono ?_
 rintro e w' ⟨rfl,rfl⟩
 go_wp2_with fail
 refine(HV.out _).mono ?_
 rintro e w' ⟨rfl,rfl⟩
 go_wp2_with fail
 refine HS.out.mono ?_
 rintro e w1 ⟨rfl,hb1⟩
 have HB:=hid (((Below.refl w.heap.size w).alloc (Nat.le_refl _) (.cells #[.int .i64 0,.string ⟨#[]⟩] 93)).trans (hb1.mono (by simp)))
 obtain⟨hc,hf⟩:=z1F hb1
 have hz:w.heap.size<w1.heap.size:=by have:=hb1.size;simp at this;omega
 clear hb1
 go_wp2
 refine bodyPost_ret (v:=.tuple #[.agg #[.int .i64 s,.string b],.bool true]) (by simp[results,Tryz.results76,go_sem,hc]) rfl ⟨rfl,?_⟩
 repeat (first|exact HB.out|refine Below.setCell ?_ (by simp) _|refine Below.alloc ?_ (by simp) _|refine Below.drew ?_)
theorem z3A (z:Int)(hf:FitZ z)(w:World)(hl:Zz w) :
 CR 76 #[.string (Sz z)] w (.tuple #[Zv z,.bool true]):=by
 rcases z0H z with⟨n,hn,rfl⟩|rfl|⟨n,hn,rfl⟩
 · rw[z3l hn,z2i hn];exact zdg n hn hf.neg w
 · rw[show Sz 0=Sn 0 from z18 0];exact zad 0 fit0 w hl
 · rw[z18];exact zad n hf.nat w hl
theorem zbO (l:List UInt8)(h:vld l=false)(hs:l.length≤maxLen)(w:World) :
 CR 76 #[.string ⟨(45 :: l).toArray⟩] w (.tuple #[Zno,.bool false]):=by
 have HC:=hid (z7C l)
 have HV:=hid (z5k ⟨l.toArray⟩ (by simpa using h) (by simpa [ByteArray.size] using hs))
 clear h hs
 go_enter Tryz.func76,Tryz.ntmps76
 go_wp2_with fail
 refine(HC.out _).mono ?_
 rintro e w' ⟨rfl,rfl⟩
 go_wp2_with fail
 refine(HV.out _).mono ?_
 rintro e w' ⟨rfl,rfl⟩
 go_wp2
 refine bodyPost_ret (v:=.tuple #[Zno,.bool false]) (by simp[results,Tryz.results76,go_sem,Zno]) rfl ⟨rfl,?_⟩
 repeat (first|exact Below.refl _ _|refine Below.setCell ?_ (by simp) _|refine Below.alloc ?_ (by simp) _|refine Below.drew ?_)
theorem zbN (w:World) :
 CR 76 #[.string ⟨(45 :: [48]).toArray⟩] w (.tuple #[Zno,.bool false]):=by
 have HC:=hid (z7C [48])
 have HV:=hid (z0B ⟨#[48]⟩ (by decide +kernel) (by decide))
 go_enter Tryz.func76,Tryz.ntmps76
 go_wp2_with fail
 refine(HC.out _).mono ?_
 rintro e w' ⟨rfl,rfl⟩
 go_wp2_with fail
 refine(HV.out _).mono ?_
 rintro e w' ⟨rfl,rfl⟩
 go_wp2
 refine bodyPost_ret (v:=.tuple #[Zno,.bool false]) (by simp[results,Tryz.results76,go_sem,Zno]) rfl ⟨rfl,?_⟩
 repeat (first|exact Below.refl _ _|refine Below.setCell ?_ (by simp) _|refine Below.alloc ?_ (by simp) _|refine Below.drew ?_)
theorem z8j (s:ByteArray)(h0:∀ t,s.data.toList≠45 :: t)(h:vld s.data.toList=false)(hs:s.size≤maxLen)(w:World) :
 CR 76 #[.string s] w (.tuple #[Zno,.bool false]):=by
 have HC:=hid (z9D s h0)
 have HV:=hid (z5k s h hs)
 clear h hs h0
 go_enter Tryz.func76,Tryz.ntmps76
 go_wp2_with fail
 refine(HC.out _).mono ?_
 rintro e w' ⟨rfl,rfl⟩
 go_wp2_with fail
 refine(HV.out _).mono ?_
 rintro e w' ⟨rfl,rfl⟩
 go_wp2
 refine bodyPost_ret (v:=.tuple #[Zno,.bool false]) (by simp[results,Tryz.results76,go_sem,Zno]) rfl ⟨rfl,?_⟩
 repeat (first|exact Below.refl _ _|refine Below.setCell ?_ (by simp) _|refine Below.alloc ?_ (by simp) _|refine Below.drew ?_)
theorem zeJ (s:ByteArray)(h:vldZ s.data.toList=false)(hs:s.size≤maxLen)(w:World) :
 CR 76 #[.string s] w (.tuple #[Zno,.bool false]):=by
 cases s with
 | mk d =>
   cases hl:d.toList with
   | nil =>
     refine z8j ⟨d⟩ (fun t=>by simp[hl]) (by simp[hl,vld]) hs w
   | cons c t =>
     by_cases hc:c=45
     · subst hc
       have hd:d=(45 :: t).toArray:=by rw[← hl]
       have ht:t.length≤maxLen:=by
        have:d.size=t.length+1:=by rw[← Array.length_toList,hl];simp
        simp[ByteArray.size]at hs;omega
       simp only[hl,vldZ,if_true,Bool.and_eq_false_iff]at h
       rw[hd]
       rcases h with h|h
       · exact zbO t h ht w
       · obtain rfl:t=[48]:=by simpa using h
         exact zbN w
     · refine z8j ⟨d⟩ (fun t'=>?_) ?_ hs w
       · simp only[hl];intro h2;injection h2 with h3 h4;exact hc h3
       · simp only[hl,vldZ,if_neg hc]at h ⊢;exact h
theorem z0T (z:Int)(hf:FitZ z)(w:World)(hl:Zz w) :
 CR 33 #[.string (Sz z)] w (.bool true):=by
 have HR:=hid (z3A z hf w hl)
 unfold Zv at HR
 generalize z.sign=s at *
 generalize Sn z.natAbs=b at *
 clear hf hl
 go_enter Tryz.func33,Tryz.ntmps33
 go_wp2_with fail
 refine HR.out.mono ?_
 rintro e w1 ⟨rfl,hb1⟩
 have HB:=hid hb1
 clear hb1
 go_wp2
 go_ret
 refine⟨rfl,?_⟩
 repeat (first|exact HB.out|refine Below.setCell ?_ (by have:=HB.out.size;simp;omega) _|refine Below.alloc ?_ (by have:=HB.out.size;simp;omega) _|refine Below.drew ?_)
theorem z5n (a:ByteArray)(h:vldZ a.data.toList=false)(hs:a.size≤maxLen)(w:World) :
 CR 33 #[.string a] w (.bool false):=by
 have HR:=hid (zeJ a h hs w)
 unfold Zno at HR
 clear h hs
 go_enter Tryz.func33,Tryz.ntmps33
 go_wp2_with fail
 refine HR.out.mono ?_
 rintro e w1 ⟨rfl,hb1⟩
 have HB:=hid hb1
 clear hb1
 go_wp2
 go_ret
 refine⟨rfl,?_⟩
 repeat (first|exact HB.out|refine Below.setCell ?_ (by have:=HB.out.size;simp;omega) _|refine Below.alloc ?_ (by have:=HB.out.size;simp;omega) _|refine Below.drew ?_)
end Go.Proofs.YtmigpoiajkihhaaGreatDoor
namespace Go.Gb
theorem zep {X Y:Rat}(h1:X.num=Y.num)(h2:X.den=Y.den):X=Y:=Rat.ext h1 h2
theorem z2Z (num:Int)(den:Nat)(hd:den≠0):(mkRat num den).num=num / ((Nat.gcd num.natAbs den:Nat):Int)∧(mkRat num den).den=den / Nat.gcd num.natAbs den:=by
 rw[← Rat.normalize_eq_mkRat hd,Rat.normalize_eq hd]
 exact⟨rfl,rfl⟩
theorem zc9 (X:Rat):(-X).num = -X.num∧(-X).den=X.den:=⟨rfl,rfl⟩
theorem z4I {X:Rat}(h:0<X.num):(X⁻¹).num=(X.den:Int)∧((X⁻¹).den:Int)=X.num:=by
 have e:X⁻¹=Rat.inv X:=rfl
 rw[e]
 unfold Rat.inv
 rw[dif_neg (by omega),dif_pos h]
 exact⟨rfl,by simp only;omega⟩
theorem z7v {X:Rat}(h:X.num<0):(X⁻¹).num = -(X.den:Int)∧((X⁻¹).den:Int) = -X.num:=by
 have e:X⁻¹=Rat.inv X:=rfl
 rw[e]
 unfold Rat.inv
 rw[dif_pos h]
 exact⟨rfl,by simp only;omega⟩
theorem z2T (X Y:Rat):X+Y=mkRat (X.num*(Y.den:Int)+Y.num*(X.den:Int)) (X.den*Y.den):=by
 have h1:=X.den_nz
 have h2:=Y.den_nz
 rw[Rat.add_def,Rat.normalize_eq_mkRat]
theorem z4i (X Y:Rat):X*Y=mkRat (X.num*Y.num) (X.den*Y.den):=by
 rw[Rat.mul_def,Rat.normalize_eq_mkRat]
theorem z7Y (X Y:Rat):X-Y=mkRat (X.num*(Y.den:Int)-Y.num*(X.den:Int)) (X.den*Y.den):=by
 rw[Rat.sub_eq_add_neg,z2T]
 show mkRat (X.num*(Y.den:Int) + -Y.num*(X.den:Int)) (X.den*Y.den)=_
 rw[Int.neg_mul];congr 1
theorem z7z (X Y:Rat)(h:0<Y.num):X / Y=mkRat (X.num*(Y.den:Int)) (X.den*Y.num.toNat):=by
 obtain⟨e1,e2⟩:=z4I h
 rw[Rat.div_def,z4i,e1]
 congr 2
 omega
theorem z7A (X Y:Rat)(h:Y.num<0):X / Y=mkRat (-(X.num*(Y.den:Int))) (X.den*(-Y.num).toNat):=by
 obtain⟨e1,e2⟩:=z7v h
 rw[Rat.div_def,z4i,e1,Int.mul_neg]
 congr 2
 omega
def cmpQ (x y:Rat):Int:=if x<y then -1 else if y<x then 1 else 0
theorem zf7 {x y:Rat}(h:x<y):cmpQ x y = -1:=by unfold cmpQ;rw[if_pos h]
theorem z9F {x y:Rat}(h:y<x):cmpQ x y=1:=by
 unfold cmpQ;rw[if_neg (by grind),if_pos h]
theorem zcC (x:Rat):cmpQ x x=0:=by
 unfold cmpQ;rw[if_neg (by grind),if_neg (by grind)]
theorem z2S (X Y:Rat)(a b:Int)(ha:a=X.num*(Y.den:Int))(hb:b=Y.num*(X.den:Int)):cmpQ X Y=if a<b then -1 else if b<a then 1 else 0:=by
 unfold cmpQ
 simp only[Rat.lt_iff,← ha,← hb]
theorem z3K (x y:Rat):(x<y∧cmpQ x y = -1)∨(x=y∧cmpQ x y=0)∨(y<x∧cmpQ x y=1):=by
 by_cases h1:x<y
 · exact Or.inl ⟨h1,zf7 h1⟩
 · by_cases h2:y<x
   · exact Or.inr (Or.inr ⟨h2,z9F h2⟩)
   · have:x=y:=by grind
     subst this
     exact Or.inr (Or.inl ⟨rfl,zcC x⟩)
theorem z8J {x y:Rat}:cmpQ x y=0↔x=y:=by
 rcases z3K x y with⟨h,e⟩|⟨h,e⟩|⟨h,e⟩<;>rw[e]
 · exact⟨fun h=>(by cases h),fun e=>(by subst e;exact absurd h Rat.lt_irrefl)⟩
 · exact⟨fun _=>h,fun _=>rfl⟩
 · exact⟨fun h=>(by cases h),fun e=>(by subst e;exact absurd h Rat.lt_irrefl)⟩
end Go.Gb
