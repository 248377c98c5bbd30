/- texts -/
import Derived.Test.YtkiklcbhglpooaaGreatDoorMz44q
import Derived.Deep.Slices
open Go.Proofs.Tryz
namespace Go.Proofs.YtkiklcbhglpooaaGreatDoor
open Go.RowKit Go.Gb
theorem z3V (x:Rat)(n:Int):rdQ x n=(((x*(n:Rat)).floor:Int):Rat) / (n:Rat):=by
 unfold rdQ
 rw[Rat.divInt_eq_div,Rat.floor_def];rfl
def Iv (g:Nat) (x y:ByteArray) (W:World):Prop:=g<W.heap.size∧W.cell? ⟨g,0,none⟩=some (.string x)∧W.cell? ⟨g,1,none⟩=some (.string y)
theorem Iv.mono {g:Nat}{x y:ByteArray}{W W':World}(h:Iv g x y W)(hb:Below W.heap.size W W'):Iv g x y W' :=
 ⟨Nat.lt_of_lt_of_le h.1 hb.size,(hb.cell (p:=⟨g,0,none⟩) h.1).trans h.2.1,(hb.cell (p:=⟨g,1,none⟩) h.1).trans h.2.2⟩
def hcells (q:Nat→Rat) (m:Nat):List Value:=(List.range m).map fun j => .string (Sq (q j))
theorem z2p:∃ i0:TypeInfo,Tryz.prog.info? 25=some i0∧i0.zero=some (.string ⟨#[]⟩)∧i0.size=1∧i0.bytes=16:=by
 have h1:(Tryz.prog.info? 25).map (fun i=>i.zero)=some (some (.string ⟨#[]⟩)):=by kernel_rfl
 have h2:(Tryz.prog.info? 25).map (fun i=>i.size)=some 1:=by kernel_rfl
 have h3:(Tryz.prog.info? 25).map (fun i=>i.bytes)=some 16:=by kernel_rfl
 cases h:Tryz.prog.info? 25 with
 | none=>rw[h]at h1;cases h1
 | some i =>
   rw[h]at h1 h2 h3;exact⟨i,rfl,by simpa using h1,by simpa using h2,by simpa using h3⟩
end Go.Proofs.YtkiklcbhglpooaaGreatDoor
set_option maxRecDepth 100000
set_option maxHeartbeats 20000000
open Go.Lib (hid)
namespace Go.Proofs.YtkiklcbhglpooaaGreatDoor
open Go.RowKit Go.Gb
def LR (W:World) (g o n:Nat) (X:Nat→ByteArray):Prop:=g<W.heap.size∧∀ j,j<n→W.cell? ⟨g,o+j,none⟩=some (.string (X j))
theorem LR.below {W W':World}{g o n:Nat}{X:Nat→ByteArray}(h:LR W g o n X)(hb:Below W.heap.size W W'):LR W' g o n X :=
 ⟨Nat.lt_of_lt_of_le h.1 hb.size,fun j hj=>(hb.cell (p:=⟨g,o+j,none⟩) h.1).trans (h.2 j hj)⟩
def LK (n:Nat) (X:Nat→ByteArray):List Value:=(List.range n).map fun j => .string (X j)
def SR (W:World) (a:Option Addr) (n c:Nat) (X:Nat→ByteArray):Prop:=n=0∨∃ g o,a=some ⟨g,o,none⟩∧n≤c∧c≤maxLen∧LR W g o n X
theorem SR.below {W W':World}{a:Option Addr}{n c:Nat}{X:Nat→ByteArray}(h:SR W a n c X)(hb:Below W.heap.size W W'):SR W' a n c X:=by
 rcases h with h|⟨g,o,h1,h2,h3,h4⟩
 · exact Or.inl h
 · exact Or.inr ⟨g,o,h1,h2,h3,h4.below hb⟩
theorem z5p (a:Option Addr)(n c:Nat)(X:Nat→ByteArray)(hn:n≤1600)(w:World)(hl:SR w a n c X):Calls Tryz.prog 8 #[.slice a n c] w fun e w'=>∃ a' c',e=.returned (.slice a' n c')∧SR w' a' n c' X∧Below w.heap.size w w':=by
 obtain⟨i0,hi,hz0,hz1,hz2⟩:=z2p;have q0:∀ (w:World) (a:Option Addr) (n c n' c':Nat),(binOp .eql 22 (.slice a n c) (.slice none n' c')).run Tryz.prog w=.ok (.bool a.isNone) w:=fun w a n c n' c'=>Lib.run_eql_slice_nil w _ _ a n c n' c' underlying22
 cases a with
 | none =>
   rcases hl with rfl|⟨g,o,h,_⟩
   · go_enter func8,ntmps8
     go_wp2;go_ret
     exact⟨none,0,rfl,Or.inl rfl,Below.refl _ _⟩
   · cases h
 | some a =>
   have A:Hid (n=0∨LR w a.block a.off n X∧a=⟨a.block,a.off,none⟩):=hid (by
    rcases hl with h|⟨g,o,h,_,_,h4⟩
    · exact Or.inl h
    · obtain rfl:=Option.some.inj h
      exact Or.inr ⟨h4,rfl⟩)
   clear hl;go_enter func8,ntmps8
   go_wp2_with (at_builtin;refine wpList_append_own _ rfl _ _ 22 rfl w.heap.size 25 i0 (.string ⟨#[]⟩) 1 16 underlying22 hi hz0 hz1 hz2 rfl (by decide) _ _ _ rfl (World.ownsRow_made w #[] 0 (Nat.le_refl _) (Nat.zero_le _) rfl) a n c (LK n X) rfl ?qc1 ?qc2 ?qc3 ?qc4 ?qc5 ?qc6 ?_)
   case qc1=>simp[LK]
   case qc2 =>
    intro j u hj
    have hjn:j<n:=by
        have:=(List.getElem?_eq_some_iff.1 hj).1;simpa [LK] using this
    rcases A.o with h|⟨h,e⟩
    · omega
    · rw[e,Addr.add_lit]
      refine Lib.cell?_alloc_some _ ?_;rw[h.2 j hjn];simpa [LK,hjn] using hj
   case qc3=>intro u hu;obtain⟨x,_,rfl⟩:=List.mem_map.1 hu;rfl
   case qc4=>unfold maxLen;omega
   case qc5=>omega
   case qc6=>simp
   intro v' w1 hown hgrow hnil;go_wp2;go_ret
   have hB:Below w.heap.size w w1:=((Below.refl _ w).alloc (Nat.le_refl _) _).grown hgrow (by simp) (by intro k hk;simp[Value.ownBlock]at hk;omega);obtain⟨h1,h2⟩:=hown;rcases h2 with⟨rfl,h3⟩|⟨g,cap,cur,rfl,hg,hh,hn2,hc,hs,ht⟩
   · obtain rfl:n=0:=by omega
     exact⟨none,0,by simp,Or.inl rfl,hB⟩
   · refine⟨_,cap,rfl,?_,hB⟩
     refine Or.inr ⟨g,0,rfl,hn2,hc,(Array.getElem?_eq_some_iff.1 hh).1,fun j hj=>?_⟩;have hx:(LK n X)[j]? = some (.string (X j)):=by simp[LK,hj]
     rw[← ht,List.getElem?_take,if_pos (by omega)]at hx;simp only[World.cell?,hh];simpa using hx
theorem z2Q (x:ByteArray)(b:Bool)(hb:decide (40<x.size)=b)(w:World):CR 23 #[.string x] w (.bool b):=by
 have e:decide ((40:Int)<(x.size:Int))=b:=by rw[← hb];exact decide_eq_decide.2 (by omega)
 clear hb;go_enter func23,ntmps23
 go_wp2;go_ret
 exact⟨rfl,Below.refl _ _⟩
theorem z0R (a:Option Addr)(n c:Nat)(X:Nat→ByteArray)(w:World)(hl:SR w a n c X) :
 Calls Tryz.prog 61 #[.slice a n c,.func (.func 23) #[] #[]] w fun e w'=>∃ r:Int,e=.returned (.int .i64 r)∧((r = -1∧∀ j,j<n→(X j).size≤40)∨(0≤r∧∃ j,j<n∧40<(X j).size))∧Below w.heap.size w w':=by
 have HL:=hid hl;clear hl;go_enter func61,ntmps61
 go_wp2;go_loopw [8] (fun ii wr=>∃ i:Nat,i≤n∧ii=.int .i64 (i:Int)∧Hid (Below w.heap.size w wr)∧∀ j,j<i→(X j).size≤40) (fun ii _=>n-(intOf ii).toNat)
 case atStart=>exact⟨0,by omega,rfl,hid (Below.refl _ _),fun j hj=>by omega⟩
 case round =>
  obtain⟨i,hin,rfl,w9,hF⟩:=hrel;rcases HL.o with rfl|⟨g,o,rfl,hnc,hcm,hL⟩
  · obtain rfl:i=0:=by omega
    clear hF;go_wp2;go_ret
    exact⟨-1,rfl,Or.inl ⟨rfl,fun j hj=>by omega⟩,w9.o⟩
  have hmx:(n:Int)≤9223372036854775807:=by unfold maxLen at hcm;omega
  by_cases hlt:i<n
  · have c0:=(hL.below w9.o).2 i hlt
    have hlt1:(i:Int)<(n:Int):=by omega
    have wi:IntKind.i64.wrap ((i:Int)+1)=(i:Int)+1:=IntWalk.i64_in _ (by omega);have hi0:(0:Int)≤(i:Int):=by omega
    have HF:=hid hF;have CW:=hid (fun W=>z2Q (X i) _ rfl W);clear hF hL;go_wp2_with fail
    refine(CW.o _).mono ?_;rintro e w1 ⟨rfl,hb⟩;have u6:=hbt w9 hb;clear hb c0 CW
    cases hw:decide (40<(X i).size) with
    | true =>
      have HJ:=hid (show ∃ j,j<n∧40<(X j).size from by
       exact⟨i,hlt,of_decide_eq_true hw⟩)
      clear hw;go_wp2;go_ret
      exact⟨i,rfl,Or.inr ⟨by omega,HJ.o⟩,u6.o⟩
    | false =>
      have HF:=hid (show ∀ j,j<i+1→(X j).size≤40 from fun j hj=>by
       by_cases hj2:j<i
       · exact HF.o j hj2
       · obtain rfl:j=i:=by omega
         have:=of_decide_eq_false hw
         omega)
      clear hw;go_wp2;go_roundw
      case rel=>exact⟨i+1,by omega,by go_num,u6,HF.o⟩
      case measure=>simp[intOf];omega
  · have hge:decide ((i:Int)<(n:Int))=false:=by rw[decide_eq_false_iff_not];omega
    obtain rfl:i=n:=by omega
    have HF:=hid hF;clear hF;go_wp2;go_ret
    exact⟨-1,rfl,Or.inl ⟨rfl,HF.o⟩,w9.o⟩
theorem z0S (a:Option Addr)(n c:Nat)(X:Nat→ByteArray)(b:Bool)(hb:((List.range n).all fun j=>decide ((X j).size≤40)) = !b)(w:World)(hl:SR w a n c X) :
 CR 22 #[.slice a n c,.func (.func 23) #[] #[]] w (.bool b):=by
 have CX:=hid (z0R a n c X w hl);have HQ:=hid hb;clear hl hb;go_enter func22,ntmps22
 go_wp2_with fail
 refine CX.o.mono ?_;rintro e w1 ⟨r,rfl,h,hb⟩;have u6:=hid hb
 have E:decide (0≤r)=b:=by
  have hq:=HQ.o;rcases h with⟨rfl,h⟩|⟨h0,j,hj,h⟩
  · have:((List.range n).all fun j=>decide ((X j).size≤40))=true:=by
       rw[List.all_eq_true];intro j hj;simpa using h j (by simpa using hj)
    rw[this]at hq
    obtain rfl:b=false:=by
       cases b with
       | false=>rfl
       | true=>cases hq
    decide
  · have:((List.range n).all fun j=>decide ((X j).size≤40))=false:=by
       rw[List.all_eq_false];exact⟨j,by simpa using hj,by simp;omega⟩
    rw[this]at hq
    obtain rfl:b=true:=by
       cases b with
       | true=>rfl
       | false=>cases hq
    exact decide_eq_true h0
 clear h hb HQ CX
 cases b with
 | false =>
   have e2:¬ 0≤r:=by simpa using E
   go_wp2;go_ret
   exact⟨rfl,u6.o⟩
 | true =>
   have e2:0≤r:=by simpa using E
   go_wp2;go_ret
   exact⟨rfl,u6.o⟩
theorem yY (a:Option Addr)(n c:Nat)(X:Nat→ByteArray)(b:Bool)(hb:((List.range n).all fun j=>decide ((X j).size≤40)) = !b)(w:World)(hl:SR w a n c X) :
 CR 6 #[.slice a n c] w (.bool b):=by
 have CX:=hid (z0S a n c X b hb w hl);clear hl hb;go_enter func6,ntmps6
 go_wp2_with fail
 refine CX.o.mono ?_;rintro e w1 ⟨rfl,hb⟩;have u6:=hid hb;clear hb CX;go_wp2;go_ret
 exact⟨rfl,u6.o⟩
theorem z4N (a b:Nat):cmpQ ((a:Nat):Rat) ((b:Nat):Rat)=if a<b then -1 else if b<a then 1 else 0:=by
 unfold cmpQ
 simp only[Rat.natCast_lt_natCast]
theorem z05 {n k:Nat}(h:(Sn n).size≤k):Sm k n:=by
 have:=Sm.of (eP n) h;rwa [bR]at this
theorem z4k (n k:Nat)(h:0<n / 10^k):(Sn n).extract 0 ((Sn n).size-k)=Sn (n / 10^k):=by
 apply ByteArray.ext
 apply Array.ext'
 have h1:=zt n k h;have h2:(Sn n).size=(Lib.decDigits n).length:=by rw[← bQ,aB]
 rw[bQ,← h1,h2,ByteArray.data_extract,Array.toList_extract,bQ];simp
theorem z2e (v k:Nat)(h:0<v):Sn v++⟨(Lib.repeatL [48] k).toArray⟩=Sn (v*10^k):=by
 apply ByteArray.ext
 apply Array.ext'
 have h1:=z1p v k h;have h2:=Lib.repeatL_replicate 48 1 k;rw[Nat.mul_one]at h2;rw[bQ,h1,← h2];simp[Sn]
theorem z2I (n k:Nat)(hn:1≤n)(hk:Sm k n)(hk1:1≤k)(hk2:k≤850)(w:World)(hla:La w)
 (ih:∀ m,m<n→CV w 57 #[.string (Sn m)] (.string (Sn (isq m)))) :
 ∃ g0,AbG n g0∧Sm (k+2) g0∧CV w 114 #[.string (Sn n)] (.string (Sn g0)):=by
 have hs:=fP hk hk1;obtain⟨d,hd⟩:∃ d,(Sn n).size / 4=d:=⟨_,rfl⟩
 have e1:(((Sn n).size:Nat):Int).tdiv 4=(d:Int):=by
  rw[Int.tdiv_eq_ediv_of_nonneg (Int.natCast_nonneg _)];omega
 by_cases h0:d=0
 · subst h0
   have h3:Sm 3 n:=z05 (by omega);have h3':n<1000:=h3;refine⟨32,⟨by decide,by omega⟩,?_,?_⟩
   · exact(show Sm 2 32 by unfold Sm;decide).mono (by omega)
   · have h:=ug (Sn n) w e1
     rwa [show(⟨#[51,50]⟩:ByteArray)=Sn 32 from by decide +kernel]at h
 · have hge:10^(d+d)≤n:=by
    apply Nat.le_of_not_lt
    intro hlt;have:=fP (show Sm (d+d) n from hlt) (by omega);omega
   have hp1:0<10^d:=Nat.pow_pos (by decide);have hp2:0<10^(d+d):=Nat.pow_pos (by decide);have hpos:0<n / 10^(d+d):=Nat.div_pos hge hp2;have hone:1<10^(d+d):=Nat.one_lt_pow (by omega) (by decide);have hlt:n / 10^(d+d)<n:=Nat.div_lt_self hn hone;have hle2:10^d≤10^(d+d):=Nat.pow_le_pow_right (by decide) (by omega);have hx:=z4k n (d+d) hpos;obtain⟨s,hs'⟩:∃ s,isq (n / 10^(d+d))=s:=⟨_,rfl⟩;have c1:=ih _ hlt;rw[hs']at c1;have hsp:=(iJ (n / 10^(d+d))).2;rw[hs']at hsp;have hsl:s≤n / 10^(d+d):=hs'▸pX _;have hgf:=vP hsp
   have hprod:n / 10^(d+d)*10^d≤n:=by
    refine Nat.le_trans (Nat.mul_le_mul_left _ hle2) ?_;exact Nat.div_mul_le_self _ _
   have hg0:(s+1)*10^d≤n+n:=by
    rw[Nat.add_mul,Nat.one_mul];have:=Nat.mul_le_mul_right (10^d) hsl;omega
   have hsm:Sm (k+2) ((s+1)*10^d):=((hk.add hk).mono (by omega)).le hg0;refine⟨(s+1)*10^d,⟨Nat.mul_pos (by omega) hp1,hgf⟩,hsm,?_⟩;have hs1:Sm k s:=hk.le (Nat.le_trans hsl (Nat.div_le_self _ _));have q1:=dZ hs1 hk1;have q2:=dZ (show Sm 1 1 by unfold Sm;decide) (Nat.le_refl 1)
   have c2:CV w 25 #[.string (Sn s),.string ⟨#[49]⟩] (.string (Sn (s+1))):=by
    have h:=lU (x:=((s:Nat):Rat)) (y:=((1:Nat):Rat)) (z:=((s+1:Nat):Rat)) (by rw[Rat.natCast_add]) (q1.fit (by omega)) (q2.fit (by decide)) w hla;rwa [← ko,← ko,← ko,show Sn 1=⟨#[49]⟩from by decide +kernel]at h
   have c3:CV w 163 #[.string ⟨#[48]⟩,.int .i64 (d:Int)] (.string ⟨(Lib.repeatL [48] d).toArray⟩):=fun W _=>by
    have h:=Tryz.strings_Repeat ⟨#[48]⟩ d W (by omega) (by show 1*d≤_;omega);rw[show(⟨#[48]⟩:ByteArray).data.toList=[48]from rfl]at h;exact h
   have hz:(⟨(Lib.repeatL [48] d).toArray⟩:ByteArray).size=d:=by rw[size_mk,Lib.repeatL_length];simp
   have hs1':(Sn (s+1)).size≤k+1:=fP (hs1.add (show Sm k 1 from(show Sm 1 1 by unfold Sm;decide).mono hk1)) (by omega);obtain⟨m,hm⟩:∃ m,m+2*d=(Sn n).size:=⟨(Sn n).size-2*d,by omega⟩
   have hx':(Sn n).extract 0 m=Sn (n / 10^(d+d)):=by
    rw[← hx];congr 1
    omega
   have h:=vE (Sn n) _ _ _ _ d m w c1 c2 c3 e1 (wrap_small (by omega) (by omega)) (by simpa using h0) (wrap_small (by omega) (by omega)) (by omega) (wrap_small (by omega) (by omega)) (by omega) hx' (by omega);rwa [z2e _ _ (by omega)]at h
theorem rC (k:Nat)(hk1:1≤k)(hk2:k≤850)(n:Nat):Sm k n→∀ w,La w→CV w 57 #[.string (Sn n)] (.string (Sn (isq n))):=by
 induction n using Nat.strongRecOn with
 | ind n ih =>
   intro hk w hla;rcases Nat.eq_zero_or_pos n with rfl|hn
   · have h:=vB w
     rwa [show(⟨#[48]⟩:ByteArray)=Sn 0 from by decide +kernel]at h
   · obtain⟨g0,ha,hg,hf⟩:=z2I n k hn hk hk1 hk2 w hla (fun m hm=>ih m hm (hk.le (Nat.le_of_lt hm)) w hla)
     have R:=fun g (hag:AbG n g) (hgg:g≤g0)=>z5s (n:=n) (g:=g) (k:=k+2) hag.1 (hk.mono (by omega)) (hg.le hgg) (by omega) (by omega) w hla;refine yL (Sn n) n g0 Sn (fun g=>Sq (((n:Nat):Rat) / ((g:Nat):Rat))) (fun g=>Sq (((g+n / g:Nat):Rat)*((1:Rat) / 2))) ?_ hn ha w hf (fun g a b=>(R g a b).1) (fun g a b=>(R g a b).2.1) (fun g a b=>(R g a b).2.2.1) (fun g a b=>(R g a b).2.2.2.1) (fun g a b=>(R g a b).2.2.2.2) ?_
     · have h:=pK (x:=((n:Nat):Rat)) (y:=((0:Nat):Rat)) (fun e=>by have:=Rat.natCast_inj.1 e;omega)
       rwa [← ko,← ko,show Sn 0=⟨#[48]⟩from by decide +kernel,toList_data ⟨#[48]⟩]at h
     · intro g hag hgg
       have hsg:=hg.le hgg;have hnx:Sm (k+3) ((g+n / g) / 2):=(hsg.add ((hk.mono (show k≤k+2 by omega)).le (Nat.div_le_self n g))).le (Nat.div_le_self _ _);have h:=rE (z4N ((g+n / g) / 2) g) ((dZ hnx (by omega)).fit (by omega)) ((dZ hsg (by omega)).fit (by omega)) w hla;rwa [← ko,← ko]at h
def iV (x:Rat) (n:Nat):Rat:=if eX x n then (eK x n:Rat) / (n:Rat) else ((eK x n:Rat)+1 / 2) / (n:Rat)
theorem qP:SmQ 1 ((1:Rat) / 2):=⟨by unfold Sm;decide +kernel,by unfold Sm;decide +kernel⟩
theorem z08 {x:Rat}{n k:Nat}(_h0:0≤x)(hx:SmQ k x)(hn:Sm 10 n)(hk:1≤k):Sm (k+21) (eK x n):=by
 unfold eK rk
 have hp:=hx.mul ((dZ hn (by decide)).mul (dZ hn (by decide)));have hf:=kR hp (by omega);have e:(x*((n:Rat)*(n:Rat))).num / ((x*((n:Rat)*(n:Rat))).den:Int)=(x*((n:Rat)*(n:Rat))).floor:=(Rat.floor_def _).symm;rw[e]at hf;exact(Sm.le hf (Nat.le_trans (pX _) (by omega))).mono (by omega)
theorem ig {n:Nat}(h:1≤n):((n:Nat):Rat)≠0:=by
 have:=qV h;grind
theorem z06 {x:Rat}{n k:Nat}(h0:0≤x)(hx:SmQ k x)(hn:Sm 10 n)(hn1:1≤n)(hk:1≤k):SmQ (k+33) (iV x n):=by
 have h1:=dZ (z08 h0 hx hn hk) (by omega);have h2:=dZ hn (by decide);unfold iV
 split
 · exact(h1.div h2 (ig hn1)).mono (by omega)
 · exact((h1.add qP).div h2 (ig hn1)).mono (by omega)
theorem z0E {x:Rat}{n k:Nat}(h0:0≤x)(hx:SmQ k x)(hk:1≤k)(hk2:k≤750)(hn1:1≤n)(hn2:n≤1000000000)(w:World)(hla:La w) :
 CV w 60 #[.string (Sq x),.int .i64 (n:Int)] (.string (Sq (iV x n))):=by
 have hn:Sm 10 n:=by
  have h:(1000000000:Nat)<10^10:=by decide
  exact Nat.lt_of_le_of_lt hn2 h
 have qn:=dZ hn (by decide);have hpp:=qn.mul qn;have hsq:=hx.mul hpp
 have c1:CV w 116 #[.int .i64 (n:Int)] (.string (Sq ((n:Nat):Rat))):=fun W hW=>by
  have h:=z5B (n:Int) (by omega) (by omega) W (hla.on hW);rwa [dC,ko]at h
 have c2:=fZ (x:=((n:Nat):Rat)) (y:=((n:Nat):Rat)) rfl (qn.fit (by decide)) (qn.fit (by decide)) w hla;have c3:=fZ (x:=x) (y:=((n:Nat):Rat)*((n:Nat):Rat)) rfl (hx.fit (by omega)) (hpp.fit (by decide)) w hla;have hpos:0≤x*(((n:Nat):Rat)*((n:Nat):Rat)):=Rat.mul_nonneg h0 (Rat.mul_nonneg (dQ n) (dQ n))
 have hfl:(x*(((n:Nat):Rat)*((n:Nat):Rat))).num / ((x*(((n:Nat):Rat)*((n:Nat):Rat))).den:Int)=(((x*(((n:Nat):Rat)*((n:Nat):Rat))).floor.toNat:Nat):Int):=by
  rw[← Rat.floor_def,Int.toNat_of_nonneg];exact Rat.le_floor_iff.2 hpos
 have c4:=rF hfl (hsq.fit (by omega)) w hla;rw[dC]at c4;have hsf:=kR hsq (by omega);rw[hfl,Int.natAbs_natCast]at hsf;have c5:=rC (k+(10+10)+1) (by omega) (by omega) _ hsf w hla;have hK:=dZ (z08 h0 hx hn hk) (by omega);have c6:=fZ (x:=((eK x n:Nat):Rat)) (y:=((eK x n:Nat):Rat)) rfl (hK.fit (by omega)) (hK.fit (by omega)) w hla;rw[show Sn (isq (x*(((n:Nat):Rat)*((n:Nat):Rat))).floor.toNat)=Sq ((eK x n:Nat):Rat) from ko _]at c5;by_cases he:eX x n=true
 · have e:((eK x n:Nat):Rat)*((eK x n:Nat):Rat)=x*(((n:Nat):Rat)*((n:Nat):Rat)):=of_decide_eq_true he
   rw[e]at c6;have c7:=rD (x:=((eK x n:Nat):Rat)) (y:=((n:Nat):Rat)) rfl (hK.fit (by omega)) (qn.fit (by decide)) (ig hn1) w hla;unfold iV
   rw[if_pos he];exact vD _ _ _ _ _ _ _ _ w c1 c2 c3 c4 c5 c6 c7
 · have e:((eK x n:Nat):Rat)*((eK x n:Nat):Rat)≠x*(((n:Nat):Rat)*((n:Nat):Rat)):=fun h=>he (decide_eq_true h)
   have c7:=lU (x:=((eK x n:Nat):Rat)) (y:=(1:Rat) / 2) rfl (hK.fit (by omega)) (qP.fit (by decide)) w hla;rw[z5v]at c7;have c8:=rD (x:=((eK x n:Nat):Rat)+1 / 2) (y:=((n:Nat):Rat)) rfl ((hK.add qP).fit (by omega)) (qn.fit (by decide)) (ig hn1) w hla;unfold iV
   rw[if_neg he];exact yR _ _ _ _ _ _ _ _ _ _ w c1 c2 c3 c4 c5 c6 c7 c8 (pK e)
def tL (x:Rat):Rat:=((isq x.num.natAbs:Nat):Rat) / ((isq x.den:Nat):Rat)
theorem nR (x:Rat):1≤isq x.den:=z4F x.den_pos
theorem z2f {x:Rat}{k:Nat}(hx:SmQ k x)(hk:1≤k):SmQ (k+k) (tL x):=by
 unfold tL
 exact(dZ (hx.1.le (pX _)) hk).div (dZ (hx.2.le (pX _)) hk) (ig (nR x))
theorem z4w {x:Rat}{k:Nat}(h0:0≤x)(hx:SmQ k x)(hk2:k≤390)(w:World)(hla:La w) :
 CV w 54 #[.string (Sq x)] (.tuple #[.string (Sn x.num.natAbs),.string (Sn x.den),.int .i64 0]):=fun W hW=>by
 have h:=z5q x (hx.fit (by omega)) W (hla.on hW);have e:x.num=((x.num.natAbs:Nat):Int):=(Int.natAbs_of_nonneg (Rat.num_nonneg.2 h0)).symm;rw[e,dC,dC]at h;exact h
theorem kE {x:Rat}{k:Nat}(hx:SmQ k x)(hk2:k≤900)(w:World)(hla:La w):CV w 55 #[.string (Sq x)] (.int .i64 (cmpQ x 0)):=by
 have h:=rE (x:=x) (y:=0) rfl (hx.fit hk2) ((show SmQ 1 (0:Rat) from⟨by unfold Sm;decide,by unfold Sm;decide⟩).fit (by decide)) w hla;rw[show Sq (0:Rat)=⟨#[48]⟩from by decide +kernel]at h;exact z0y _ _ w h
theorem eZ {x:Rat}(h0:0≤x):decide (cmpQ x 0<0)=false:=by
 rcases j6 x 0 with⟨h,e⟩|⟨h,e⟩|⟨h,e⟩
 · grind
 · rw[e];rfl
 · rw[e];rfl
theorem yU {x:Rat}{k:Nat}(h0:0≤x)(hx:SmQ k x)(hk:1≤k)(hk2:k≤390)(h:tL x*tL x=x)(w:World)(hla:La w) :
 CV w 20 #[.string (Sq x)] (.tuple #[.string (Sq (tL x)),.bool true,.int .i64 0]):=by
 have q1:=dZ (hx.1.le (pX _)) hk;have q2:=dZ (hx.2.le (pX _)) hk;have c3:=rC k hk (by omega) _ hx.1 w hla;have c4:=rC k hk (by omega) _ hx.2 w hla;rw[ko (isq _)]at c3 c4;have c5:=rD (x:=((isq x.num.natAbs:Nat):Rat)) (y:=((isq x.den:Nat):Rat)) (z:=tL x) rfl (q1.fit (by omega)) (q2.fit (by omega)) (ig (nR x)) w hla;have hr:=z2f hx hk;have c6:=fZ h (hr.fit (by omega)) (hr.fit (by omega)) w hla;exact yT _ _ _ _ _ _ _ w (z4w h0 hx hk2 w hla) (kE hx (by omega) w hla) c3 c4 c5 c6 (eZ h0)
theorem pz (x y:Rat)(h:x≤y)(hx:FitQ x)(hy:FitQ y)(w:World)(hl:La w) :
 CR 39 #[.agg #[.string (Sq x),.string (Sq y)]] w (.bool true):=qj x y h hx hy w hl
theorem z3E (x:Rat)(hx:FitQ x)(w:World)(hl:La w) :
 CR 51 #[.string (Sq x)] w (.tuple #[.agg #[.string (Sq x),.string (Sq x)],.int .i64 0]):=z5D x hx w hl
theorem z5c {k:Nat}(a b:Rat)(n:Int)(hk:k≤790)(h:a≤b)(ha:SmQ k a)(hb:SmQ k b)(hn1:1≤n)(hn2:n≤1000000000)(w:World)(hl:La w) :
 CR 59 #[.agg #[.string (Sq a),.string (Sq b)],.int .i64 n] w (.tuple #[.agg #[.string (Sq (rdQ a n)),.string (Sq (0-rdQ (0-b) n))],.int .i64 0]):=z5C a b n hk h ha hb hn1 hn2 w hl
end Go.Proofs.YtkiklcbhglpooaaGreatDoor
open Go.Lib (hid)
namespace Go.Proofs.YtkiklcbhglpooaaGreatDoor
open Go.RowKit Go.Gb
set_option linter.unusedSimpArgs false
set_option linter.unusedVariables false
abbrev RII (W:World) (x y:Rat):Ending→World→Prop:=fun e w'=>∃ qa qb:QS,e=.returned (.agg #[.bool qa.b,.slice qa.a qa.n qa.c,.slice qa.e qa.m qa.d,.bool qb.b,.slice qb.a qb.n qb.c,.slice qb.e qb.m qb.d])∧FQ w' qa x∧FQ w' qb y∧Below W.heap.size W w'
theorem gTo (xa xb:Rat)(s t:ByteArray)(q1a q1b:QS)(w:World)  (h1:KP1 81 xa (.string s))(h2:KP1 81 xb (.string t))(r1a:FQ w q1a xa)(r1b:FQ w q1b xb) :
 CR 32 #[(Qii q1a q1b)] w (.agg #[.string s,.string t]):=by
 dsimp only[Qii];obtain ⟨C1,C2,R1a,R1b⟩:=aP h1 h2 r1a r1b;clear h1 h2 r1a r1b;go_enter func32,ntmps32
 go_upto_region 1 with fail
 refine aG w [(#[.bool q1a.b,.slice q1a.a q1a.n q1a.c,.slice q1a.e q1a.m q1a.d,.bool q1b.b,.slice q1b.a q1b.n q1b.c,.slice q1b.e q1b.m q1b.d],58),(#[.string ⟨#[]⟩,.string ⟨#[]⟩],27)] rfl ?_;rintro W0 ⟨k1,k2,hb⟩;have w9:=hid (show Below w.heap.size w W0 from hb);obtain ⟨R1a,R1b⟩:=aM w9.o R1a R1b;obtain ⟨K1,K2⟩:=aC k1 k2;clear k1 k2 hb;go_wp2_with fail
 refine aK (fun a0 a' V=>a'=⟨putL [(3,.pointer (some ⟨w.heap.size,0,none⟩)),(4,q1a.v),(5,.string s),(6,.pointer (some ⟨w.heap.size,3,none⟩)),(7,q1b.v),(8,.string t),(9,.agg #[.string s,.string t])] a0.tmps,a0.defers⟩∧Below w.heap.size w V∧SBk V (w.heap.size+1) #[.string s,.string t] 27) ?_ ?_
 · refine aY 7 1 [3,4,5,6,7,8,9] [Rel.val (.pointer (some ⟨w.heap.size,0,none⟩)),Rel.val (q1a.v),Rel.val (.string s),Rel.val (.pointer (some ⟨w.heap.size,3,none⟩)),Rel.val (q1b.v),Rel.val (.string t),Rel.val (.agg #[.string s,.string t])] ?_ ?_
   · intro si a W i HI hD Hr him
     have y1:=HI.o.rst 1 rfl;obtain ⟨su,sw,r9,rq,ru,rM⟩:=sG (K1.o.below HI.o.world) rfl rfl rfl rfl rfl rfl;obtain⟨X0,X1,X3,X4,X2,X5⟩:=HI.o.g6 0 3 1 4 3 6 4 7 2 5 5 8
     match i,him,Hr with
     | 0,_,Hi|1,_,Hi|3,_,Hi|4,_,Hi|6,_,Hi =>
       try have x0:=X0.t Hi.o
       try have x3:=X3.t Hi.o
       try have x2:=X2.t Hi.o
       try have x5:=X5.t Hi.o
       refine aF rfl fun K' hK=>?_;go_simp;exact hK.o _ _ (HI.o.pw Hi.o)
     | 2,_,Hi =>
       have x1:=X1.q Hi.o;refine aF rfl fun K' hK=>?_;go_simp;with_reducible refine(C1.o _ _ (R1a.o.below HI.o.world)).mono ?_
       rintro e W' ⟨rfl,hb⟩;exact hK.o _ _ ⟨HI.o.pc Hi.o hb rfl,trivial⟩
     | 5,_,Hi =>
       have x4:=X4.q Hi.o;refine aF rfl fun K' hK=>?_;go_simp;with_reducible refine(C2.o _ _ (R1b.o.below HI.o.world)).mono ?_
       rintro e W' ⟨rfl,hb⟩;exact hK.o _ _ ⟨HI.o.pc Hi.o hb rfl,trivial⟩
     | n+7,h,_=>exact absurd h (by omega)
   · intro si a W HI hD HA
     have x6:a.tmps[9]? = some (.agg #[.string s,.string t]):=HI.o.sx HA.o 6;have wo:=hid HI.o.world;obtain ⟨sj,K2⟩:=aC (w9.o.trans (wo.o.mono w9.o.size)) (K2.o.below wo.o);obtain⟨wu,ww⟩:=z5J K2.o;obtain⟨rV,p8⟩:=frz2 K2.o;have y2:=HI.o.rst 2 rfl;refine bJ (t:=0) ?_;refine aF rfl fun K' hK=>?_;go_simp;refine hK.o _ _ ?_;clear hK;refine bF ?_;rw[← pF];exact⟨rfl,(HI.o.finx ⟨HI.o.sx HA.o 0,HI.o.sx HA.o 1,HI.o.sx HA.o 2,HI.o.sx HA.o 3,HI.o.sx HA.o 4,HI.o.sx HA.o 5,x6,trivial⟩ rfl),(az (l:=[.string s,.string t]) (i:=0) (by omega) sj.o),(nD K2.o)⟩
 rintro a' W1 ⟨rfl,z0,z1⟩;have u6:=hid z0;have K2:=hid z1;clear z0 z1;simp only[putL,List.setIfInBounds_toArray,List.set_cons_zero,List.set_cons_succ];go_wp2;obtain ⟨wu,ww⟩:=ay K2.o rfl rfl;exact bodyPost_ret (v:=.agg #[.string s,.string t]) (by simp[results,results32,go_sem,wu,ww]) rfl ⟨rfl,u6.o⟩
