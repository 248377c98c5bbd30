/- texts -/
import Derived.Test.YtnpkghpfmieboaaGreatDoorMz12q
import Derived.Deep.RegionHeld3
import Derived.Test.YtnpkghpfmieboaaGreatDoorMz13q
open Go.Proofs.Tryz
set_option maxRecDepth 100000
set_option maxHeartbeats 20000000
namespace Go.Proofs.YtnpkghpfmieboaaGreatDoor
open Go.RowKit Go.Gb
theorem fM {W w1:World}(hb:Below W.heap.size W w1):(∀ b o,b<W.heap.size→w1.cell? ⟨b,o,none⟩=W.cell? ⟨b,o,none⟩)∧(∀ b o,b<W.heap.size→w1.frozen? ⟨b,o,none⟩=W.frozen? ⟨b,o,none⟩) :=
 ⟨fun b o h=>hb.cell (p:=⟨b,o,none⟩) h,fun b o h=>hb.frozen (p:=⟨b,o,none⟩) h⟩
def Zz (w:World):Prop:=1<w.heap.size∧w.cell? ⟨1,0,none⟩=some (.int .i64 0)∧w.cell? ⟨1,1,none⟩=some (.string ⟨#[48]⟩)
theorem Zz.on {w w':World}(h:Zz w)(hb:Below w.heap.size w w'):Zz w' :=
 ⟨Nat.lt_of_lt_of_le h.1 hb.size,(hb.cell (p:=⟨1,0,none⟩) h.1).trans h.2.1,(hb.cell (p:=⟨1,1,none⟩) h.1).trans h.2.2⟩
structure La (w:World):Prop where
 tb:Tb w
 zz:Zz w
theorem La.on {w w':World}(h:La w)(hb:Below w.heap.size w w'):La w':=⟨h.tb.on hb,h.zz.on hb⟩
theorem vE:Sn 0=⟨#[48]⟩:=by decide +kernel
theorem z4G:Sn 1=⟨#[49]⟩:=by decide +kernel
theorem qX (n:Nat):(Sn n).toList=Lib.decDigits n:=by rw[toList_data,dh]
theorem z06 {x y:Nat}(h:x≠y):((Sn x).toList==(Sn y).toList)=false:=by
 rw[beq_eq_false_iff_ne,qX,qX];exact fun h2=>h (z4a h2)
theorem z05 {x:Nat}(h:x≠0):((Sn x).toList==[48])=false:=by
 rw[beq_eq_false_iff_ne,qX];intro h2;apply h
 rw[← fT x,h2];rfl
def Zv (z:Int):Value:=.agg #[.int .i64 z.sign,.string (Sn z.natAbs)]
def Sz (z:Int):ByteArray:=if z<0 then ⟨(45 :: Lib.decDigits z.natAbs).toArray⟩ else Sn z.natAbs
theorem jo {n:Nat}(h:n≠0):Sz (-(n:Int))=⟨(45 :: Lib.decDigits n).toArray⟩:=by
 unfold Sz;rw[if_pos (by omega),Int.natAbs_neg,Int.natAbs_natCast]
theorem dW (n:Nat):Sz (n:Int)=Sn n:=by
 unfold Sz;rw[if_neg (by omega),Int.natAbs_natCast]
theorem gP {n:Nat}(h:n≠0):Zv (-(n:Int))=.agg #[.int .i64 (-1),.string (Sn n)]:=by
 unfold Zv;rw[Int.natAbs_neg,Int.natAbs_natCast,Int.sign_neg,Int.sign_natCast_of_ne_zero h]
theorem gN {n:Nat}(h:n≠0):Zv (n:Int)=.agg #[.int .i64 1,.string (Sn n)]:=by
 unfold Zv;rw[Int.natAbs_natCast,Int.sign_natCast_of_ne_zero h]
theorem gM:Zv 0=.agg #[.int .i64 0,.string ⟨#[48]⟩]:=by
 unfold Zv;rw[← vE];rfl
theorem cz (z:Int):(∃ n:Nat,n≠0∧z = -(n:Int))∨z=0∨∃ n:Nat,n≠0∧z=(n:Int):=by
 rcases Int.lt_trichotomy z 0 with h|h|h
 · left;exact⟨z.natAbs,by omega,by omega⟩
 · right;left;exact h
 · right;right;exact⟨z.natAbs,by omega,by omega⟩
def FitZ (z:Int):Prop:=Fit z.natAbs
theorem FitZ.neg {n:Nat}(h:FitZ (-(n:Int))):Fit n:=by unfold FitZ at h;rwa [Int.natAbs_neg,Int.natAbs_natCast]at h
theorem FitZ.nat {n:Nat}(h:FitZ (n:Int)):Fit n:=by unfold FitZ at h;rwa [Int.natAbs_natCast]at h
theorem Fit.neg {n:Nat}(h:Fit n):FitZ (-(n:Int)):=by unfold FitZ;rwa [Int.natAbs_neg,Int.natAbs_natCast]
theorem Fit.nat {n:Nat}(h:Fit n):FitZ (n:Int):=by unfold FitZ;rwa [Int.natAbs_natCast]
theorem fit0:Fit 0:=(show Sm 1 0 by simp[Sm]).mono (by decide)
theorem fit1:Fit 1:=(show Sm 1 1 by simp[Sm]).mono (by decide)
theorem fZ (s:Int)(b:ByteArray)(h1 : -1≤s)(h2:s≤1)(w:World) :
 CR 205 #[.agg #[.int .i64 s,.string b]] w (.agg #[.int .i64 (-s),.string b]):=by
 go_enter func205,ntmps205
 go_wp2;refine bodyPost_ret (v:=.agg #[.int .i64 (-s),.string b]) (by simp[results,results205,go_sem]) rfl ⟨rfl,?_⟩;repeat (first|exact Below.refl _ _|refine Below.setCell ?_ (by simp) _|refine Below.alloc ?_ (by simp) _|refine Below.drew ?_)
theorem iy (z:Int)(w:World) :
 CR 205 #[Zv z] w (Zv (-z)):=by
 have h:=fZ z.sign (Sn z.natAbs) (by rcases Int.sign_trichotomy z with h|h|h<;>omega) (by rcases Int.sign_trichotomy z with h|h|h<;>omega) w;unfold Zv
 rw[Int.sign_neg,Int.natAbs_neg];exact h
theorem iP (z:Int)(hf:FitZ z)(w:World) :
 CR 167 #[Zv z] w (.string (Sz z)):=by
 rcases cz z with⟨n,hn,rfl⟩|rfl|⟨n,hn,rfl⟩
 · rw[gP hn,jo hn]
   have hadd:=run_string_add_sum (P:=Tryz.prog) (w.alloc (.cells #[.int .i64 (-1),.string (Sn n)] 149)) ⟨#[45]⟩ (Sn n) (by have:=hf.neg.size;have e:(⟨#[45]⟩:ByteArray).size=1:=rfl;omega);clear hn hf;go_enter func167,ntmps167
   go_wp2;go_ret
   refine⟨?_,(Below.refl _ _).alloc (Nat.le_refl _) _⟩
   have e:(⟨#[45]⟩:ByteArray)++Sn n=⟨(45 :: Lib.decDigits n).toArray⟩:=by
    apply ByteArray.ext
    apply Array.ext'
    simp[Sn]
   rw[e];rfl
 · rw[gM,show Sz 0=⟨#[48]⟩from(dW 0).trans vE]
   go_enter func167,ntmps167
   go_wp2;go_ret
   exact⟨rfl,(Below.refl _ _).alloc (Nat.le_refl _) _⟩
 · rw[gN hn,dW]
   go_enter func167,ntmps167
   go_wp2;go_ret
   exact⟨rfl,(Below.refl _ _).alloc (Nat.le_refl _) _⟩
theorem vF (s:Int)(w:World)(hz:Zz w) :
 CR 134 #[.int .i64 s,.string ⟨#[48]⟩] w (Zv 0):=by
 rw[gM];obtain⟨h0,h1,h2⟩:=hz;go_enter func134,ntmps134
 go_wp2;refine bodyPost_ret (v:=.agg #[.int .i64 0,.string ⟨#[48]⟩]) (by simp[results,results134,go_sem]) rfl ⟨rfl,?_⟩;repeat (first|exact Below.refl _ _|refine Below.setCell ?_ (by simp) _|refine Below.alloc ?_ (by simp) _|refine Below.drew ?_)
theorem vG (s:Int)(n:Nat)(hn:n≠0)(w:World) :
 CR 134 #[.int .i64 s,.string (Sn n)] w (.agg #[.int .i64 s,.string (Sn n)]):=by
 have h0:=z05 hn;clear hn;go_enter func134,ntmps134
 go_wp2;refine bodyPost_ret (v:=.agg #[.int .i64 s,.string (Sn n)]) (by simp[results,results134,go_sem]) rfl ⟨rfl,?_⟩;repeat (first|exact Below.refl _ _|refine Below.setCell ?_ (by simp) _|refine Below.alloc ?_ (by simp) _|refine Below.drew ?_)
theorem lX (s:Int)(n:Nat)(z:Int)(hz:z=s*(n:Int))(hs:s=1∨s = -1)(w:World)(hl:Zz w) :
 CR 134 #[.int .i64 s,.string (Sn n)] w (Zv z):=by
 by_cases hn:n=0
 · subst hn
   obtain rfl:z=0:=by rw[hz];simp
   rw[vE];exact vF s w hl
 · have h:=vG s n hn w
   rcases hs with rfl|rfl
   · rw[show z=(n:Int) by omega,gN hn];exact h
   · rw[show z = -(n:Int) by omega,gP hn];exact h
open Go.Lib (hid)
def vldZ (l:List UInt8):Bool:=match l with
 | []=>false
 | c :: t=>if c=45 then vld t && !(t==[48]) else vld (c :: t)
def zval (l:List UInt8):Int:=match l with
 | []=>0
 | c :: t=>if c=45 then -(aJ t:Int) else (aJ (c :: t):Int)
theorem jP {n:Nat}:∃ c t,Lib.decDigits n=c :: t∧c≠45:=by
 cases h:Lib.decDigits n with
 | nil=>exact absurd h (iZ n)
 | cons c t =>
   refine⟨c,t,rfl,?_⟩;have h1:=jg n;rw[h]at h1;simp only[List.all_cons,Bool.and_eq_true]at h1;have h2:=(fE c).1 h1.1;intro h3;subst h3;simp at h2
theorem nE (n:Nat):vldZ (Lib.decDigits n)=true:=by
 obtain⟨c,t,h,hc⟩:=jP (n:=n);have hv:=nT n;rw[h]at hv ⊢;unfold vldZ
 simp only[if_neg hc,hv]
theorem kF (n:Nat):zval (Lib.decDigits n)=(n:Int):=by
 obtain⟨c,t,h,hc⟩:=jP (n:=n);have hv:=fT n;rw[h]at hv ⊢;unfold zval
 simp only[if_neg hc,hv]
theorem z5P {n:Nat}(h:Lib.decDigits n=[48]):n=0:=by rw[← fT n,h];rfl
theorem z1D {n:Nat}(hn:n≠0):vldZ (45 :: Lib.decDigits n)=true:=by
 have h:(Lib.decDigits n==[48])=false:=beq_eq_false_iff_ne.2 (fun h=>hn (z5P h));unfold vldZ
 simp[nT n,h]
theorem z1u (n:Nat):zval (45 :: Lib.decDigits n) = -(n:Int):=by
 unfold zval
 simp[fT n]
theorem zY {a:ByteArray}(h:vldZ a.data.toList=true):a=Sz (zval a.data.toList):=by
 cases a with
 | mk d =>
   cases hl:d.toList with
   | nil=>simp[hl,vldZ]at h
   | cons c t =>
     simp only[hl]at h ⊢;by_cases hc:c=45
     · subst hc
       simp only[vldZ,if_true,Bool.and_eq_true]at h;obtain⟨h1,h2⟩:=h;have hd:=jS t h1
       have hne:aJ t≠0:=by
        intro h0;rw[h0,Lib.decDigits_one (by decide)]at hd;rw[← hd]at h2;simp at h2
       have e:zval (45 :: t) = -(aJ t:Int):=by simp[zval]
       rw[e,jo hne,hd,← hl]
     · simp only[vldZ,if_neg hc]at h
       have hd:=jS (c :: t) h;have e:zval (c :: t)=(aJ (c :: t):Int):=by simp[zval,hc]
       rw[e,dW];unfold Sn
       rw[hd,← hl]
theorem zX (z:Int):vldZ (Sz z).data.toList=true:=by
 rcases cz z with⟨n,hn,rfl⟩|rfl|⟨n,hn,rfl⟩
 · rw[jo hn];simpa using z1D hn
 · rw[show Sz 0=Sn 0 from dW 0,dh];exact nE 0
 · rw[dW,dh];exact nE n
theorem tH (z:Int):zval (Sz z).data.toList=z:=by
 rcases cz z with⟨n,hn,rfl⟩|rfl|⟨n,hn,rfl⟩
 · rw[jo hn];simpa using z1u n
 · rw[show Sz 0=Sn 0 from dW 0,dh];exact kF 0
 · rw[dW,dh];exact kF n
theorem wK (l:List UInt8)(w:World) :
 Calls Tryz.prog 132 #[.string ⟨(45 :: l).toArray⟩,.string ⟨#[45]⟩] w fun e w'=>e=.returned (.tuple #[.string ⟨l.toArray⟩,.bool true])∧w=w':=by
 refine(Tryz.strings_CutPrefix _ _ w).mono ?_;rintro e w' ⟨rfl,rfl⟩;refine⟨?_,rfl⟩;simp[Lib.trimPrefix,Lib.hasPrefix,List.isPrefixOf]
theorem z1a (s:ByteArray)(h:∀ t,s.data.toList≠45 :: t)(w:World) :
 Calls Tryz.prog 132 #[.string s,.string ⟨#[45]⟩] w fun e w'=>e=.returned (.tuple #[.string s,.bool false])∧w=w':=by
 refine(Tryz.strings_CutPrefix _ _ w).mono ?_;rintro e w' ⟨rfl,rfl⟩;refine⟨?_,rfl⟩
 have hp:Lib.hasPrefix s.data.toList [45]=false:=by
  unfold Lib.hasPrefix
  cases hl:s.data.toList with
  | nil=>rfl
  | cons c t =>
    have:¬ 45=c:=by intro hc;subst hc;exact h t hl
    simp[List.isPrefixOf,this]
 have e:(⟨#[45]⟩:ByteArray).data.toList=[45]:=rfl;rw[e,hp];unfold Lib.trimPrefix
 rw[hp];cases s
 simp
def Zno:Value:=.agg #[.int .i64 0,.string ⟨#[]⟩]
theorem z2a (n:Nat)(hn:n≠0)(hf:Fit n)(w:World) :
 CR 115 #[.string ⟨(45 :: Lib.decDigits n).toArray⟩] w (.tuple #[.agg #[.int .i64 (-1),.string (Sn n)],.bool true]):=by
 have HC:=hid (wK (Lib.decDigits n));rw[show(⟨(Lib.decDigits n).toArray⟩:ByteArray)=Sn n from rfl]at HC;have HV:=hid (z3q n hf);have h0:=z05 hn;clear hn hf;go_enter func115,ntmps115
 go_wp2_with fail
 refine(HC.o _).mono ?_;rintro e w' ⟨rfl,rfl⟩;go_wp2_with fail
 refine(HV.o _).mono ?_;rintro e w' ⟨rfl,rfl⟩;go_wp2;refine bodyPost_ret (v:=.tuple #[.agg #[.int .i64 (-1),.string (Sn n)],.bool true]) (by simp[results,results115,go_sem]) rfl ⟨rfl,?_⟩;repeat (first|exact Below.refl _ _|refine Below.setCell ?_ (by simp) _|refine Below.alloc ?_ (by simp) _|refine Below.drew ?_)
theorem z5J {n:Nat}:∀ t,(Sn n).data.toList≠45 :: t:=by
 intro t h;rw[dh]at h;obtain⟨c,t',h2,hc⟩:=jP (n:=n);rw[h2]at h;injection h with h3 h4
 exact hc h3
theorem xL (n:Nat)(hf:Fit n)(w:World)(hl:Zz w) :
 CR 115 #[.string (Sn n)] w (.tuple #[Zv (n:Int),.bool true]):=by
 have HC:=hid (z1a (Sn n) z5J);have HV:=hid (z3q n hf);have hb0:=(Below.refl w.heap.size w).alloc (Nat.le_refl _) (.cells #[.int .i64 0,.string ⟨#[]⟩] 149);have HS:=hid (lX 1 n (n:Int) (by omega) (Or.inl rfl) _ (hl.on hb0));unfold Zv at *
 generalize (n:Int).sign=s at *;generalize Sn (n:Int).natAbs=b at *;clear hf hl hb0;go_enter func115,ntmps115
 go_wp2_with fail
 refine(HC.o _).mono ?_;rintro e w' ⟨rfl,rfl⟩;go_wp2_with fail
 refine(HV.o _).mono ?_;rintro e w' ⟨rfl,rfl⟩;go_wp2_with fail
 refine HS.o.mono ?_;rintro e w1 ⟨rfl,hb1⟩;have HB:=hid (((Below.refl w.heap.size w).alloc (Nat.le_refl _) (.cells #[.int .i64 0,.string ⟨#[]⟩] 149)).trans (hb1.mono (by simp)));obtain⟨hc,hf⟩:=fM hb1;have hz:w.heap.size<w1.heap.size:=by have:=hb1.size;simp at this;omega
 clear hb1;go_wp2;refine bodyPost_ret (v:=.tuple #[.agg #[.int .i64 s,.string b],.bool true]) (by simp[results,results115,go_sem,hc]) rfl ⟨rfl,?_⟩;repeat (first|exact HB.o|refine Below.setCell ?_ (by simp) _|refine Below.alloc ?_ (by simp) _|refine Below.drew ?_)
theorem kU (z:Int)(hf:FitZ z)(w:World)(hl:Zz w) :
 CR 115 #[.string (Sz z)] w (.tuple #[Zv z,.bool true]):=by
 rcases cz z with⟨n,hn,rfl⟩|rfl|⟨n,hn,rfl⟩
 · rw[jo hn,gP hn];exact z2a n hn hf.neg w
 · rw[show Sz 0=Sn 0 from dW 0];exact xL 0 fit0 w hl
 · rw[dW];exact xL n hf.nat w hl
theorem z0l (l:List UInt8)(h:vld l=false)(hs:l.length≤maxLen)(w:World) :
 CR 115 #[.string ⟨(45 :: l).toArray⟩] w (.tuple #[Zno,.bool false]):=by
 have HC:=hid (wK l);have HV:=hid (nM ⟨l.toArray⟩ (by simpa using h) (by simpa [ByteArray.size] using hs));clear h hs;go_enter func115,ntmps115
 go_wp2_with fail
 refine(HC.o _).mono ?_;rintro e w' ⟨rfl,rfl⟩;go_wp2_with fail
 refine(HV.o _).mono ?_;rintro e w' ⟨rfl,rfl⟩;go_wp2;refine bodyPost_ret (v:=.tuple #[Zno,.bool false]) (by simp[results,results115,go_sem,Zno]) rfl ⟨rfl,?_⟩;repeat (first|exact Below.refl _ _|refine Below.setCell ?_ (by simp) _|refine Below.alloc ?_ (by simp) _|refine Below.drew ?_)
theorem z0k (w:World) :
 CR 115 #[.string ⟨(45 :: [48]).toArray⟩] w (.tuple #[Zno,.bool false]):=by
 have HC:=hid (wK [48]);have HV:=hid (bW ⟨#[48]⟩ (by decide +kernel) (by decide));go_enter func115,ntmps115
 go_wp2_with fail
 refine(HC.o _).mono ?_;rintro e w' ⟨rfl,rfl⟩;go_wp2_with fail
 refine(HV.o _).mono ?_;rintro e w' ⟨rfl,rfl⟩;go_wp2;refine bodyPost_ret (v:=.tuple #[Zno,.bool false]) (by simp[results,results115,go_sem,Zno]) rfl ⟨rfl,?_⟩;repeat (first|exact Below.refl _ _|refine Below.setCell ?_ (by simp) _|refine Below.alloc ?_ (by simp) _|refine Below.drew ?_)
theorem ug (s:ByteArray)(h0:∀ t,s.data.toList≠45 :: t)(h:vld s.data.toList=false)(hs:s.size≤maxLen)(w:World) :
 CR 115 #[.string s] w (.tuple #[Zno,.bool false]):=by
 have HC:=hid (z1a s h0);have HV:=hid (nM s h hs);clear h hs h0;go_enter func115,ntmps115
 go_wp2_with fail
 refine(HC.o _).mono ?_;rintro e w' ⟨rfl,rfl⟩;go_wp2_with fail
 refine(HV.o _).mono ?_;rintro e w' ⟨rfl,rfl⟩;go_wp2;refine bodyPost_ret (v:=.tuple #[Zno,.bool false]) (by simp[results,results115,go_sem,Zno]) rfl ⟨rfl,?_⟩;repeat (first|exact Below.refl _ _|refine Below.setCell ?_ (by simp) _|refine Below.alloc ?_ (by simp) _|refine Below.drew ?_)
theorem z3L (s:ByteArray)(h:vldZ s.data.toList=false)(hs:s.size≤maxLen)(w:World) :
 CR 115 #[.string s] w (.tuple #[Zno,.bool false]):=by
 cases s with
 | mk d =>
   cases hl:d.toList with
   | nil =>
     refine ug ⟨d⟩ (fun t=>by simp[hl]) (by simp[hl,vld]) hs w
   | cons c t =>
     by_cases hc:c=45
     · subst hc
       have hd:d=(45 :: t).toArray:=by rw[← hl]
       have ht:t.length≤maxLen:=by
        have:d.size=t.length+1:=by rw[← Array.length_toList,hl];simp
        simp[ByteArray.size]at hs;omega
       simp only[hl,vldZ,if_true,Bool.and_eq_false_iff]at h;rw[hd];rcases h with h|h
       · exact z0l t h ht w
       · obtain rfl:t=[48]:=by simpa using h
         exact z0k w
     · refine ug ⟨d⟩ (fun t'=>?_) ?_ hs w
       · simp only[hl];intro h2;injection h2 with h3 h4;exact hc h3
       · simp only[hl,vldZ,if_neg hc]at h ⊢;exact h
theorem dS (z:Int)(hf:FitZ z)(w:World)(hl:Zz w) :
 CR 89 #[.string (Sz z)] w (.bool true):=by
 have HR:=hid (kU z hf w hl);unfold Zv at HR
 generalize z.sign=s at *;generalize Sn z.natAbs=b at *;clear hf hl;go_enter func89,ntmps89
 go_wp2_with fail
 refine HR.o.mono ?_;rintro e w1 ⟨rfl,hb1⟩;have HB:=hid hb1;clear hb1;go_wp2;go_ret
 refine⟨rfl,?_⟩;repeat (first|exact HB.o|refine Below.setCell ?_ (by have:=HB.o.size;simp;omega) _|refine Below.alloc ?_ (by have:=HB.o.size;simp;omega) _|refine Below.drew ?_)
theorem nP (a:ByteArray)(h:vldZ a.data.toList=false)(hs:a.size≤maxLen)(w:World) :
 CR 89 #[.string a] w (.bool false):=by
 have HR:=hid (z3L a h hs w);unfold Zno at HR
 clear h hs;go_enter func89,ntmps89
 go_wp2_with fail
 refine HR.o.mono ?_;rintro e w1 ⟨rfl,hb1⟩;have HB:=hid hb1;clear hb1;go_wp2;go_ret
 refine⟨rfl,?_⟩;repeat (first|exact HB.o|refine Below.setCell ?_ (by have:=HB.o.size;simp;omega) _|refine Below.alloc ?_ (by have:=HB.o.size;simp;omega) _|refine Below.drew ?_)
end Go.Proofs.YtnpkghpfmieboaaGreatDoor
namespace Go.Gb
theorem z2O {Yt Z V r P t c B:Nat}(hZ:Z<P)(hr:r<P)(hs:Yt+V=Z+P*c)(hY:Yt+P*t+V=r+P*B):c+t=B:=by
 have h:Z+P*(c+t)=r+P*B:=by rw[Nat.mul_add];omega
 have hP:0<P:=by omega
 have h1:=congrArg (· / P) h;simp only[Nat.add_mul_div_left _ _ hP,Nat.div_eq_of_lt hZ,Nat.div_eq_of_lt hr,Nat.zero_add]at h1;exact h1
end Go.Gb
namespace Go.Proofs.YtnpkghpfmieboaaGreatDoor
open Go.RowKit Go.Gb
def Row4 (w:World) (g cap:Nat) (zs:List Nat):Prop:=∃ cur:Array Value,w.heap[g]? = some (.cells cur 115 (0,0))∧cur.size=cap∧zs.length≤cap∧cur.toList.take zs.length=cls .u32 zs
theorem Row4.lt {w:World}{g cap:Nat}{zs:List Nat}(h:Row4 w g cap zs):g<w.heap.size:=by
 obtain⟨cur,h1,_⟩:=h;exact(Array.getElem?_eq_some_iff.1 h1).1
theorem Row4.le {w:World}{g cap:Nat}{zs:List Nat}(h:Row4 w g cap zs):zs.length≤cap:=by
 obtain⟨cur,_,_,h3,_⟩:=h;exact h3
theorem Row4.cell {w:World}{g cap:Nat}{zs:List Nat}(h:Row4 w g cap zs){i:Nat}(hi:i<zs.length):w.cell? ⟨g,i,none⟩=some (.int .u32 ((zs.getD i 0:Nat):Int)):=by
 obtain⟨cur,h1,h2,h3,h4⟩:=h;have h5:=jF (k:=.u32) hi;rw[← h4,List.getElem?_take,if_pos hi]at h5;simp only[World.cell?,h1];simpa using h5
theorem Row4.free {w:World}{g cap:Nat}{zs:List Nat}(h:Row4 w g cap zs)(i:Nat):w.frozen? ⟨g,i,none⟩=false:=by
 obtain⟨cur,h1,h2,h3,h4⟩:=h;simp only[World.frozen?,h1];simp
theorem Row4.set {w:World}{g cap:Nat}{zs:List Nat}(h:Row4 w g cap zs)(i v:Nat):Row4 (w.setCell ⟨g,i,none⟩ (.int .u32 ((v:Nat):Int))) g cap (zs.set i v):=by
 obtain⟨cur,h1,h2,h3,h4⟩:=h;refine⟨cur.setIfInBounds i (.int .u32 (v:Int)),?_,by simp[h2],by simpa using h3,?_⟩
 · simp only[World.setCell,Array.getElem?_modify,h1]
   simp
 · rw[List.length_set,sM,← h4,Array.toList_setIfInBounds,List.take_set]
theorem Row4.aside {w:World}{g cap k i:Nat}{zs:List Nat}{v:Value}(h:Row4 w g cap zs)(hne:g≠k):Row4 (w.setCell ⟨k,i,none⟩ v) g cap zs:=by
 obtain⟨cur,h1,h2,h3,h4⟩:=h;exact⟨cur,by rw[Below.heap_setCell _ _ _ _ hne];exact h1,h2,h3,h4⟩
theorem Row4.below {w w':World}{g cap:Nat}{zs:List Nat}(h:Row4 w g cap zs)(hb:Below w.heap.size w w'):Row4 w' g cap zs:=by
 obtain⟨cur,h1,h2,h3,h4⟩:=h;exact⟨cur,by rw[hb.block g (Array.getElem?_eq_some_iff.1 h1).1];exact h1,h2,h3,h4⟩
theorem Row4.drewN {w:World}{g cap:Nat}{zs:List Nat}(h:Row4 w g cap zs)(n:Nat):Row4 (w.drewN n) g cap zs:=h
theorem Row4.take {w:World}{g cap:Nat}{zs:List Nat}(h:Row4 w g cap zs)(m:Nat)(hm:m≤zs.length):Row4 w g cap (zs.take m):=by
 obtain⟨cur,h1,h2,h3,h4⟩:=h;refine⟨cur,h1,h2,by simp;omega,?_⟩;rw[nK,← h4,List.take_take,List.length_take,Nat.min_eq_left hm]
theorem Row4.own {w:World}{g cap B:Nat}{zs:List Nat}(h:Row4 w g cap zs)(hB:B≤g)(hm:cap≤maxLen):Own .u32 115 B w (.slice (some ⟨g,0,none⟩) zs.length cap) zs:=by
 obtain⟨cur,h1,h2,h3,h4⟩:=h;refine⟨by simp[cls],Or.inr ⟨g,cap,cur,rfl,hB,h1,h3,hm,by simp[h2],?_⟩⟩;rw[Nat.mul_one];exact h4
theorem Row4.of_own {w:World}{B:Nat}{v:Value}{zs:List Nat}(h:Own .u32 115 B w v zs)(hp:0<zs.length):∃ g cap,v=.slice (some ⟨g,0,none⟩) zs.length cap∧B≤g∧cap≤maxLen∧Row4 w g cap zs:=by
 obtain⟨h1,h2⟩:=h;rcases h2 with⟨h2,h3⟩|⟨g,cap,cur,hv,hg,hh,hn,hc,hs,ht⟩
 · omega
 · rw[Nat.mul_one]at hs ht
   exact⟨g,cap,hv,hg,hc,cur,hh,hs,hn,ht⟩
