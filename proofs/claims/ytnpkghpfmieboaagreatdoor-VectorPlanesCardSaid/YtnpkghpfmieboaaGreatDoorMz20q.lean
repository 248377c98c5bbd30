/- texts -/
import Derived.Test.YtnpkghpfmieboaaGreatDoorMz14q
import Derived.Lib.CutLaws
import Derived.Test.YtnpkghpfmieboaaGreatDoorMz19q
import Derived.Deep.DeepCutAuto
namespace Go.Proofs.YtnpkghpfmieboaaGreatDoor
open Go.RowKit Go.Gb
theorem index_hit (c:UInt8)(a b:List UInt8)(h:c∉a):Lib.index (a++c :: b) [c]=a.length:=by
 refine Lib.index_first (by simp) ?_ ?_
 · simp[Lib.occAt,List.isPrefixOf]
 · intro j hj
   unfold Lib.occAt
   rw[List.drop_append_of_le_length (by omega)]
   cases hd:a.drop j with
   | nil=>exact absurd (List.drop_eq_nil_iff.1 hd) (by omega)
   | cons x t =>
     have hx:x∈a:=List.mem_of_mem_drop (hd▸List.mem_cons_self);have h1:¬ c=x:=by rintro rfl;exact h hx
     simp[List.isPrefixOf,h1]
theorem qC (c:UInt8):∀ l:List UInt8,c∉l→Lib.index l [c] = -1
 | [],_=>rfl
 | x :: l,h=>by
   have h1:¬ c=x:=by rintro rfl;exact h List.mem_cons_self
   have h2:=qC c l (fun hm=>h (List.mem_cons_of_mem _ hm));unfold Lib.index
   rw[h2];simp[List.isPrefixOf,h1]
theorem z1b (c:UInt8)(a b:List UInt8)(h:c∉a):Lib.cut (a++c :: b) [c]=(a,b,true):=by
 unfold Lib.cut
 rw[index_hit c a b h,if_pos (by omega)];simp
theorem yx (c:UInt8)(l:List UInt8)(h:c∉l):Lib.cut l [c]=(l,[],false):=by
 unfold Lib.cut
 rw[qC c l h];rfl
theorem oO (c:UInt8)(l:List UInt8):(c∉l∧Lib.cut l [c]=(l,[],false))∨∃ a b,c∉a∧l=a++c :: b∧Lib.cut l [c]=(a,b,true):=by
 by_cases h:c∈l
 · obtain⟨a,b,e,hn⟩:=List.eq_append_cons_of_mem h
   exact Or.inr ⟨a,b,hn,e,by rw[e];exact z1b c a b hn⟩
 · exact Or.inl ⟨h,yx c l h⟩
theorem z0Y (c:UInt8)(hc:isD c=false)(n:Nat):c∉Lib.decDigits n:=by
 intro h;have:=List.all_eq_true.1 (jg n) c h;rw[hc]at this;cases this
theorem z1N (c:UInt8)(hc:isD c=false)(h45:c≠45)(z:Int):c∉(Sz z).data.toList:=by
 rcases cz z with⟨n,hn,rfl⟩|rfl|⟨n,hn,rfl⟩
 · rw[jo hn]
   intro h;rcases List.mem_cons.1 h with h|h
   · exact h45 h
   · exact z0Y c hc n h
 · rw[show Sz 0=Sn 0 from dW 0,dh];exact z0Y c hc 0
 · rw[dW,dh];exact z0Y c hc n
def Sq (q:Rat):ByteArray:=if q.den=1 then Sz q.num else ⟨((Sz q.num).data.toList++47 :: Lib.decDigits q.den).toArray⟩
theorem ji {q:Rat}(h:q.den=1):Sq q=Sz q.num:=by unfold Sq;rw[if_pos h]
theorem qW {q:Rat}(h:q.den≠1):Sq q=⟨((Sz q.num).data.toList++47 :: Lib.decDigits q.den).toArray⟩:=by unfold Sq;rw[if_neg h]
theorem ik {q:Rat}(h:q.den≠1):(Sq q).data.toList=(Sz q.num).data.toList++47 :: Lib.decDigits q.den:=by rw[qW h]
theorem z1T (z:Int):Sq (Rat.ofInt z)=Sz z:=ji rfl
theorem sD {q:Rat}(h:q.den≠1):Lib.cut (Sq q).data.toList [47]=((Sz q.num).data.toList,Lib.decDigits q.den,true):=by
 rw[ik h];exact z1b 47 _ _ (z1N 47 (by decide) (by decide) _)
theorem wL (z:Int):Lib.cut (Sz z).data.toList [47]=((Sz z).data.toList,[],false):=yx 47 _ (z1N 47 (by decide) (by decide) _)
def vldP (n d:List UInt8):Bool:=vldZ n&&vldZ d && !(d==[49])&&decide (1≤zval d)&&(Nat.gcd (zval n).natAbs (zval d).natAbs==1)
def vldQ (l:List UInt8):Bool:=if (Lib.cut l [47]).2.2 then vldP (Lib.cut l [47]).1 (Lib.cut l [47]).2.1 else vldZ l
def qval (l:List UInt8):Rat:=if (Lib.cut l [47]).2.2 then mkRat (zval (Lib.cut l [47]).1) (zval (Lib.cut l [47]).2.1).toNat else Rat.ofInt (zval l)
theorem z3h {l:List UInt8}(h:vldZ l=true):(Sz (zval l)).data.toList=l:=by
 have h1:=zY (a:=⟨l.toArray⟩) (by simpa using h);have h2:=congrArg (fun b:ByteArray=>b.data.toList) h1;simpa using h2.symm
theorem z2H {l:List UInt8}(h:vldZ l=true)(h1:1≤zval l):l=Lib.decDigits (zval l).toNat:=by
 have h2:=z3h h;obtain⟨n,hn⟩:∃ n:Nat,zval l=n:=⟨(zval l).toNat,by omega⟩;rw[hn,dW,dh]at h2;rw[hn,Int.toNat_natCast,h2]
theorem zg (z:Int)(n:Nat)(hn:n≠0)(hg:Nat.gcd z.natAbs n=1):(mkRat z n).num=z∧(mkRat z n).den=n:=by
 have h:=nJ z n hn;rw[hg]at h;simpa using h
theorem z3J {a:ByteArray}(h:vldQ a.data.toList=true):a=Sq (qval a.data.toList):=by
 cases a with
 | mk d =>
   simp only at h ⊢;obtain⟨l,rfl⟩:∃ l:List UInt8,d=l.toArray:=⟨d.toList,rfl⟩;simp only at h ⊢;rcases oO 47 l with⟨_,e⟩|⟨x,y,_,el,e⟩
   · unfold vldQ at h
     unfold qval
     rw[e]at h ⊢;simp only[Bool.false_eq_true,if_false]at h ⊢;rw[z1T];have h2:=zY (a:=⟨l.toArray⟩) (by simpa using h);simpa using h2
   · unfold vldQ at h
     unfold qval
     rw[e]at h ⊢;simp only[if_true]at h ⊢;unfold vldP at h
     simp only[Bool.and_eq_true,decide_eq_true_eq,Bool.not_eq_true',beq_iff_eq]at h;obtain⟨⟨⟨⟨h1,h2⟩,h3⟩,h4⟩,h5⟩:=h;have hy:=z2H h2 h4;have hx:=z3h h1;obtain⟨m,hm⟩:∃ m:Nat,zval y=m:=⟨(zval y).toNat,by omega⟩;rw[hm]at h4 h5 hy ⊢;rw[Int.toNat_natCast]at hy ⊢;rw[Int.natAbs_natCast]at h5;obtain⟨p1,p2⟩:=zg (zval x) m (by omega) h5
     have hm1:m≠1:=by
        intro h6;subst h6;rw[Lib.decDigits_one (by decide)]at hy;rw[hy]at h3;simp at h3
     rw[qW (by rw[p2];exact hm1),p1,p2,hx,← hy,el]
theorem vC {q:Rat}(h:q.den≠1):vldP (Sz q.num).data.toList (Lib.decDigits q.den)=true:=by
 unfold vldP
 have h1:zval (Lib.decDigits q.den)=(q.den:Int):=kF _;have h0:=q.den_nz;have hg:=q.reduced
 have h2:(Lib.decDigits q.den==[49])=false:=by
  rw[beq_eq_false_iff_ne];intro h3;apply h
  rw[← fT q.den,h3];rfl
 rw[zX,tH,nE,h1,h2,Int.natAbs_natCast];have h4:Nat.gcd q.num.natAbs q.den=1:=hg;rw[h4];simp
 omega
theorem z01 (q:Rat):vldQ (Sq q).data.toList=true:=by
 unfold vldQ
 by_cases h:q.den=1
 · rw[ji h,wL];exact zX _
 · rw[sD h];exact vC h
theorem z3i (q:Rat):qval (Sq q).data.toList=q:=by
 unfold qval
 by_cases h:q.den=1
 · rw[ji h,wL]
   simp only[Bool.false_eq_true,if_false];rw[tH];exact Rat.ext rfl h.symm
 · rw[sD h]
   simp only[if_true];rw[tH,kF,Int.toNat_natCast];exact Rat.mkRat_self q
theorem z02 (q:Rat):(Sq q).toList=(Sq q).data.toList:=toList_data _
theorem tL {x y:Rat}(h:x≠y):((Sq x).toList==(Sq y).toList)=false:=by
 rw[beq_eq_false_iff_ne,z02,z02];intro h2;apply h
 rw[← z3i x,← z3i y,h2]
def SmQ (k:Nat) (q:Rat):Prop:=Sm k q.num.natAbs∧Sm k q.den
def FitQ (q:Rat):Prop:=SmQ 900 q
theorem SmQ.mono {k l:Nat}{q:Rat}(h:SmQ k q)(hkl:k≤l):SmQ l q:=⟨h.1.mono hkl,h.2.mono hkl⟩
theorem SmQ.fit {k:Nat}{q:Rat}(h:SmQ k q)(hk:k≤900):FitQ q:=SmQ.mono h hk
theorem SmQ.neg {k:Nat}{q:Rat}(h:SmQ k q):SmQ k (-q):=by
 obtain⟨e1,e2⟩:=z0y q;unfold SmQ
 rw[e1,e2,Int.natAbs_neg];exact h
theorem z4Q (z:Int)(n:Nat)(hn:n≠0):(mkRat z n).num.natAbs≤z.natAbs∧(mkRat z n).den≤n:=by
 obtain⟨e1,e2⟩:=nJ z n hn;rw[e1,e2];exact⟨Int.natAbs_ediv_le_natAbs _ _,Nat.div_le_self _ _⟩
theorem z3k {k:Nat}{z:Int}{n:Nat}(hn:n≠0)(h1:Sm k z.natAbs)(h2:Sm k n):SmQ k (mkRat z n):=by
 obtain⟨e1,e2⟩:=z4Q z n hn;exact⟨h1.le e1,h2.le e2⟩
theorem iY (x y:Rat):x.den*y.den≠0:=Nat.mul_ne_zero x.den_nz y.den_nz
theorem SmQ.add {k l:Nat}{x y:Rat}(hx:SmQ k x)(hy:SmQ l y):SmQ (k+l+1) (x+y):=by
 rw[jJ];refine z3k (iY x y) ?_ ((hx.2.mul hy.2).mono (by omega));refine Sm.le ?_ (Int.natAbs_add_le _ _);rw[Int.natAbs_mul,Int.natAbs_mul,Int.natAbs_natCast,Int.natAbs_natCast];exact Sm.add (hx.1.mul hy.2) ((hy.1.mul hx.2).mono (by omega))
theorem SmQ.sub {k l:Nat}{x y:Rat}(hx:SmQ k x)(hy:SmQ l y):SmQ (k+l+1) (x-y):=by
 rw[Rat.sub_eq_add_neg];exact hx.add hy.neg
theorem SmQ.mul {k l:Nat}{x y:Rat}(hx:SmQ k x)(hy:SmQ l y):SmQ (k+l) (x*y):=by
 rw[jA];refine z3k (iY x y) ?_ (hx.2.mul hy.2);rw[Int.natAbs_mul];exact hx.1.mul hy.1
theorem SmQ.inv {k:Nat}{x:Rat}(hx:SmQ k x)(h0:x≠0):SmQ k x⁻¹:=by
 have hn:x.num≠0:=fun h=>h0 (Rat.num_eq_zero.1 h);rcases Int.lt_or_gt_of_ne hn with h|h
 · obtain⟨e1,e2⟩:=l7 h
   unfold SmQ
   rw[e1,Int.natAbs_neg,Int.natAbs_natCast,show(x⁻¹).den=x.num.natAbs by omega];exact⟨hx.2,hx.1⟩
 · obtain⟨e1,e2⟩:=oD h
   unfold SmQ
   rw[e1,Int.natAbs_natCast,show(x⁻¹).den=x.num.natAbs by omega];exact⟨hx.2,hx.1⟩
theorem SmQ.div {k l:Nat}{x y:Rat}(hx:SmQ k x)(hy:SmQ l y)(h0:y≠0):SmQ (k+l) (x / y):=by
 rw[Rat.div_def];exact hx.mul (hy.inv h0)
theorem jq {z:Int}{k:Nat}(h:(Sz z).size≤k):Sm k z.natAbs:=by
 rcases cz z with⟨n,hn,rfl⟩|rfl|⟨n,hn,rfl⟩
 · rw[Int.natAbs_neg,Int.natAbs_natCast]
   rw[jo hn]at h
   have h1:=Sm.of (a:=Sn n) (k:=k) (eQ n) (by
    have h2:(Sn n).size=(Lib.decDigits n).length:=by rw[← aG,dh]
    have h3:(⟨(45 :: Lib.decDigits n).toArray⟩:ByteArray).size=(Lib.decDigits n).length+1:=by simp[ByteArray.size]
    omega)
   rwa [cB]at h1
 · rw[show Sz 0=Sn 0 from dW 0]at h
   have h1:=Sm.of (a:=Sn 0) (k:=k) (eQ 0) h;rwa [cB]at h1
 · rw[Int.natAbs_natCast]
   rw[dW]at h;have h1:=Sm.of (a:=Sn n) (k:=k) (eQ n) h;rwa [cB]at h1
theorem z07 {q:Rat}{k:Nat}(h:(Sq q).size≤k)(hk:0<k):SmQ k q:=by
 by_cases h1:q.den=1
 · rw[ji h1]at h
   refine⟨jq h,?_⟩;rw[h1];exact Nat.one_lt_pow (by omega) (by decide)
 · have h2:(Sq q).size=(Sz q.num).size+1+(Sn q.den).size:=by
    rw[← aG,ik h1,← aG,← aG,dh];simp;omega
   refine⟨jq (by omega),?_⟩;have h3:=Sm.of (a:=Sn q.den) (k:=k) (eQ _) (by omega);rwa [cB]at h3
theorem FitQ.num {q:Rat}(h:FitQ q):FitZ q.num:=by unfold FitZ Fit;exact Sm.mono (k:=900) h.1 (by decide)
theorem FitQ.den {q:Rat}(h:FitQ q):Fit q.den:=by unfold Fit;exact Sm.mono (k:=900) h.2 (by decide)
theorem jZ {z:Int}{k:Nat}(h:Sm k z.natAbs)(hk:0<k):(Sz z).size≤k+1:=by
 rcases cz z with⟨n,hn,rfl⟩|rfl|⟨n,hn,rfl⟩
 · rw[Int.natAbs_neg,Int.natAbs_natCast]at h
   have h1:=iH h hk;have h2:(Sn n).size=(Lib.decDigits n).length:=by rw[← aG,dh]
   have h3:(Sz (-(n:Int))).size=(Lib.decDigits n).length+1:=by rw[jo hn];simp[ByteArray.size]
   omega
 · have h1:=iH h hk
   rw[show Sz 0=Sn 0 from dW 0];simp at h1
   omega
 · rw[Int.natAbs_natCast]at h
   have h1:=iH h hk;rw[dW];omega
theorem vB {q:Rat}{k:Nat}(h:SmQ k q)(hk:0<k):(Sq q).size≤k+1+1+k:=by
 have h1:=jZ h.1 hk;have h2:=iH h.2 hk;by_cases h3:q.den=1
 · rw[ji h3];omega
 · have h4:(Sq q).size=(Sz q.num).size+1+(Sn q.den).size:=by
    rw[← aG,ik h3,← aG,← aG,dh];simp;omega
   omega
theorem qx {n:Nat}(h:n<10^18):Lib.parseIntB 64 (Lib.decDigits n)=.ok (n:Int):=by
 have hl:(Lib.decDigits n).length≤18:=su 18 n h (by decide);have hp:=og (Lib.decDigits n) (nT n) (by omega);rw[fT]at hp;obtain⟨c,t,hd,hc⟩:=jP (n:=n);have hD:isD c=true:=List.all_eq_true.1 (jg n) c (by rw[hd];exact List.mem_cons_self);have hD':=(fE c).1 hD;rw[hd]at hp ⊢;unfold Lib.parseIntB
 have h1:¬ c.toNat=43:=by omega
 have h2:¬ c.toNat=45:=by omega
 simp only[h1,h2,or_self,if_false,hp]
 have h3:¬ (2^(64-1)≤n):=by
  have:(10:Nat)^18<2^(64-1):=by decide
  omega
 simp[h3]
theorem ze {n:Nat}(h:n<10^18):Lib.parseIntB 64 (45 :: Lib.decDigits n)=.ok (-(n:Int)):=by
 have hl:(Lib.decDigits n).length≤18:=su 18 n h (by decide);have hp:=og (Lib.decDigits n) (nT n) (by omega);rw[fT]at hp;unfold Lib.parseIntB
 have e:(45:UInt8).toNat=45:=rfl;simp only[e,or_true,if_true,hp]
 have h3:¬ (2^(64-1)<n):=by
  have:(10:Nat)^18<2^(64-1):=by decide
  omega
 simp[h3]
theorem z2l {z:Int}(h:(Sz z).size≤18):Lib.parseIntB 64 (Sz z).data.toList=.ok z:=by
 have hs:=jq h;rcases cz z with⟨n,hn,rfl⟩|rfl|⟨n,hn,rfl⟩
 · rw[Int.natAbs_neg,Int.natAbs_natCast]at hs
   rw[jo hn];exact ze hs
 · rw[show Sz 0=Sn 0 from dW 0,dh]
   exact qx (by decide)
 · rw[Int.natAbs_natCast]at hs
   rw[dW,dh];exact qx hs
theorem z3W (z:Int):(⟨(Lib.itoa z).toArray⟩:ByteArray)=Sz z:=by
 unfold Lib.itoa Sz
 split
 · rfl
 · unfold Sn
   rw[show z.toNat=z.natAbs by omega]
set_option maxRecDepth 100000
set_option maxHeartbeats 20000000
open Go.Lib (hid)
def Seen (X Y a b c d:Nat) (o:Bool):Prop:=b=0∨∃ f s,Made a b c d o X Y f s∧s≤f∧Fac a b c d∧Dtm a b c d o∧d≤1000000000
theorem z1V {X Y a b c d:Nat}{o:Bool}(hX:X<1000000000)(h0:Y≠0)(h:iM X Y (Nat.gcd X Y) 0 a b c d o)(hf:Fac a b c d)(hd:Dtm a b c d o):Seen X Y a b c d o:=by
 have hg:0<Nat.gcd X Y:=Nat.gcd_pos_of_pos_right _ (by omega);have hb:=h.bound hg;obtain⟨_,_,_,k1,k2⟩:=h;exact Or.inr ⟨_,_,⟨k2,k1⟩,Nat.zero_le _,hf,hd,by omega⟩
theorem z0c {X Y n s t a b c d:Nat}{o:Bool}(hn:2≤n)(hl:(aa X).length=n)(hYX:Y≤X)(hst:BB=s*t)(hs:0<s)(ht:0<t)(hh:(aa X).getD (n-1) 0*s<BB)
 (h:uX (lead (aa X) n s) (lead (aa Y) n s) a b c d o):Seen X Y a b c d o:=by
 have hX:=aS X;have hY:=aS Y;have hlY:(aa Y).length≤n:=by rw[← hl];exact aN hYX
 obtain⟨x1,x2⟩:=kZ (aa X) hX n s t hn (by omega) hst hs ht;obtain⟨y1,y2⟩:=kZ (aa Y) hY n s t hn hlY hst hs ht;rw[aB]at x1 x2 y1 y2;have hlt:lead (aa X) n s<BB*BB:=vT (getD_lt hX (n-2)) (by unfold third;split;exact getD_lt hX _;exact bR) hst hs hh;obtain⟨hf,hd,h⟩:=h;rcases h with h|⟨x,y,hE,hyx,hdy,hbd⟩
 · exact Or.inl h
 · right
   obtain⟨f,s',hm,hsf⟩:=uL hE hf hyx hdy hbd hs x1 x2 y1 y2;refine⟨f,s',hm,hsf,hf,hd,?_⟩;have:=yP hE hlt hyx hdy;rw[aI]at this;omega
theorem z0E {X Y n s t:Nat}(hn:2≤n)(hl:(aa X).length=n)(hYX:Y≤X)(hst:BB=s*t)(hs:0<s)(ht:0<t):lead (aa Y) n s≤lead (aa X) n s:=by
 have hlY:(aa Y).length≤n:=by rw[← hl];exact aN hYX
 obtain⟨x1,x2⟩:=kZ (aa X) (aS X) n s t hn (by omega) hst hs ht;obtain⟨y1,y2⟩:=kZ (aa Y) (aS Y) n s t hn hlY hst hs ht;rw[aB]at x1 x2 y1 y2;have h1:s*Y≤s*X:=Nat.mul_le_mul_left _ hYX;have h2:lead (aa Y) n s*BB^(n-2)<(lead (aa X) n s+1)*BB^(n-2):=by omega
 have:=Nat.lt_of_mul_lt_mul_right h2;omega
def scM (v:Value):Nat:=1000000001-(intOf v).toNat
theorem kR (w1:World)(a b c d:Nat)(o:Bool):Sb (w1.alloc (.cells #[.int .u64 (a:Int),.int .u64 (b:Int),.int .u64 (c:Int),.int .u64 (d:Int),.bool o] 192)) w1.heap.size a b c d o:=by
 unfold Sb
 rw[heap_alloc_new]
theorem xH {w1:World}{g a b c d:Nat}{o:Bool}(h:Sb w1 g a b c d o)(x:Obj):Sb (w1.alloc x) g a b c d o:=bJ h ((Below.refl _ w1).alloc (Nat.le_refl _) x)
theorem vH {w1:World}{g a b c d:Nat}{o:Bool}(h:Sb w1 g a b c d o):Sb w1.drew g a b c d o:=h
theorem z0b {w w1:World}(a b c d:Nat)(o:Bool)(hb:Below (w.alloc (.cells #[.int .u64 0,.int .u64 0,.int .u64 0,.int .u64 0,.bool false] 192)).drew.heap.size (w.alloc (.cells #[.int .u64 0,.int .u64 0,.int .u64 0,.int .u64 0,.bool false] 192)).drew w1) :
 Sb (w1.alloc (.cells #[.int .u64 (a:Int),.int .u64 (b:Int),.int .u64 (c:Int),.int .u64 (d:Int),.bool o] 192)) w1.heap.size a b c d o ∧
 Sb (w1.alloc (.cells #[.int .u64 (a:Int),.int .u64 (b:Int),.int .u64 (c:Int),.int .u64 (d:Int),.bool o] 192)) w.heap.size 0 0 0 0 false∧w1.heap.size≠w.heap.size ∧
 Below w.heap.size w (w1.alloc (.cells #[.int .u64 (a:Int),.int .u64 (b:Int),.int .u64 (c:Int),.int .u64 (d:Int),.bool o] 192)):=by
 have hz:=hb.size;have e:(w.alloc (.cells #[.int .u64 0,.int .u64 0,.int .u64 0,.int .u64 0,.bool false] 192)).drew.heap.size=w.heap.size+1:=World.size_alloc _ _;rw[e]at hz;have h1:Sb w1 w.heap.size 0 0 0 0 false:=bJ (show Sb (w.alloc (.cells #[.int .u64 0,.int .u64 0,.int .u64 0,.int .u64 0,.bool false] 192)).drew w.heap.size 0 0 0 0 false from kR w 0 0 0 0 false) hb;refine⟨kR w1 a b c d o,xH h1 _,by omega,?_⟩;refine Below.alloc ?_ (by omega) _;exact(((Below.refl w.heap.size w).alloc (Nat.le_refl _) _).drew).trans (hb.mono (by rw[e];omega))
theorem z0a {w w1:World}(a b c d:Nat)(o:Bool)(hb:Below ((w.alloc (.cells #[.int .u64 0,.int .u64 0,.int .u64 0,.int .u64 0,.bool false] 192)).alloc (.cells #[.int .u64 0,.int .u64 0,.int .u64 0,.int .u64 0,.bool false] 192)).drew.heap.size ((w.alloc (.cells #[.int .u64 0,.int .u64 0,.int .u64 0,.int .u64 0,.bool false] 192)).alloc (.cells #[.int .u64 0,.int .u64 0,.int .u64 0,.int .u64 0,.bool false] 192)).drew w1) :
 Sb (set5 w1 (w.heap.size+1) a b c d o) (w.heap.size+1) a b c d o∧Sb (set5 w1 (w.heap.size+1) a b c d o) w.heap.size 0 0 0 0 false∧w.heap.size+1≠w.heap.size∧Below w.heap.size w (set5 w1 (w.heap.size+1) a b c d o):=by
 have e:((w.alloc (.cells #[.int .u64 0,.int .u64 0,.int .u64 0,.int .u64 0,.bool false] 192)).alloc (.cells #[.int .u64 0,.int .u64 0,.int .u64 0,.int .u64 0,.bool false] 192)).drew.heap.size=w.heap.size+1+1:=by
  show(World.alloc _ _).heap.size=_
  rw[World.size_alloc,World.size_alloc]
 have z1:=kR w 0 0 0 0 false;have z2:=kR (w.alloc (.cells #[.int .u64 0,.int .u64 0,.int .u64 0,.int .u64 0,.bool false] 192)) 0 0 0 0 false;rw[World.size_alloc]at z2;have h1:Sb w1 w.heap.size 0 0 0 0 false:=bJ (vH (xH z1 _)) hb;have h2:Sb w1 (w.heap.size+1) 0 0 0 0 false:=bJ (vH z2) hb;refine⟨gz h2 a b c d o,dP h1 (by omega) a b c d o,by omega,dF ?_ (by omega) a b c d o⟩;exact((((Below.refl w.heap.size w).alloc (Nat.le_refl _) _).alloc (by rw[World.size_alloc];omega) _).drew).trans (hb.mono (by rw[e];omega))
theorem vZ (v1 v2:Value)(X Y:Nat)(h0:Y≠0)(hYX:Y≤X)(hl:(aa X).length=1)(w:World)(h1:Rd .u64 w v1 (aa X))(h2:Rd .u64 w v2 (aa Y)) :
 Calls Tryz.prog 190 #[v1,v2] w fun e w'=>∃ (a b c d:Nat) (o:Bool),e=.returned (Stp a b c d o)∧Hid (Seen X Y a b c d o)∧Below w.heap.size w w':=by
 have dX:aa X=[X]:=by
  match hd:aa X,hl with
  | [x],_=>have:=aB X;rw[hd]at this;simp[aj]at this;rw[this]
 have hX:X<BB:=by have:=aS X X (by rw[dX];simp);exact this
 have dY:aa Y=[Y]:=by
  have h:=lG (w:=Y) (n:=0) (by omega) (Or.inl h0);rw[aU]at h;simpa using h
 rw[dX]at h1;rw[dY]at h2;rw[aI]at hX;obtain⟨b1,o1,c1,rfl,_,_,hb1,r1⟩:=dO h1 (by simp);obtain⟨b2,o2,c2,rfl,_,_,hb2,r2⟩:=dO h2 (by simp);have cx:=r1 0 (by simp);have cy:=r2 0 (by simp);simp only[Nat.add_zero,List.getD_cons_zero]at cx cy;rw[show[X].length=1 from rfl,show[Y].length=1 from rfl]
 have HS:=hid (fun W=>uQ X Y (by omega) (by omega) (fun x y a b c d o=>Fac a b c d∧Dtm a b c d o∧y≤x) ⟨Fac.start,Dtm.start,hYX⟩
  (fun x y a b c d o hy _ hI=>⟨hI.1.step (by rw[Nat.le_div_iff_mul_le hy];omega),hI.2.1.step,Nat.le_of_lt (Nat.mod_lt x hy)⟩) W)
 unfold Stp at HS
 have HX:=hid hX;have H0:=hid h0
 have z0:Sb (w.alloc (.cells #[.int .u64 0,.int .u64 0,.int .u64 0,.int .u64 0,.bool false] 192)) w.heap.size 0 0 0 0 false:=by
  unfold Sb
  rw[heap_alloc_new];rfl
 have HZ0:=hid z0;have HN0:=hid ((Below.refl w.heap.size w).alloc (Nat.le_refl _) (.cells #[.int .u64 0,.int .u64 0,.int .u64 0,.int .u64 0,.bool false] 192));clear h0 hYX hl h1 h2 dX dY hX r1 r2 z0;go_enter Tryz.func190,Tryz.ntmps190
 go_upto_region 2 with fail
 go_cut [6] (fun v6 wx=>∃ (g a b c d:Nat) (o:Bool),v6=.pointer (some ⟨g,0,none⟩)∧Hid (Sb wx g a b c d o)∧Hid (Sb wx w.heap.size 0 0 0 0 false)∧g≠w.heap.size∧Hid (Below w.heap.size w wx)∧Hid (Seen X Y a b c d o))
 case first =>
  go_region_held3 (fun w'=>w'.cell? ⟨b1,o1,none⟩=some (.int .u64 (X:Int))∧w'.cell? ⟨b2,o2,none⟩=some (.int .u64 (Y:Int))) (first|((try go_split_ands);refine⟨?_,?_⟩<;>(first|(with_reducible assumption)|((repeat (first|rw[qN]|rw[nD (by first|assumption|omega|(simp;done)|(simp;omega))]|rw[z3y (by omega)]));first|(with_reducible assumption)|(simp;done))))|(go_keep;done))
   (first|(go_at_call 158;(refine(HS.o _).mono ?_);rintro e w1 ⟨a,b,c,d,o,rfl,hEI,hb1⟩;have HEI:=hid hEI;have u6:=hid hb1;obtain⟨hc1,hf1⟩:=wbc hb1;have hz1:=hb1.size;(try simp at hz1);have sx:w1.cell? ⟨b1,o1,none⟩=some (.int .u64 (X:Int)):=(by rw[hc1 _ _ (by first|omega|(simp;omega))];first|(with_reducible assumption)|(simp;done)|simp[*]);have sy:w1.cell? ⟨b2,o2,none⟩=some (.int .u64 (Y:Int)):=(by rw[hc1 _ _ (by first|omega|(simp;omega))];first|(with_reducible assumption)|(simp;done)|simp[*]);clear hEI))
  all_goals
   obtain⟨hE,hF,hD,_⟩:=HEI.o;have hSeen:=hid (z1V HX.o H0.o hE hF hD);clear hE hF hD HEI
  · obtain⟨q1,q2,q3,q4⟩:=z0b a b c d o u6.o
    obtain ⟨Q1,Q2,Q4⟩:=ax q1 q2 q4;clear q1 q2 q4;go_wp2_with fail
    go_meet
    exact⟨_,a,b,c,d,o,rfl,Q1,Q2,q3,Q4,hSeen⟩
  · obtain⟨q1,q2,q3,q4⟩:=z0a a b c d o u6.o
    obtain ⟨Q1,Q2,Q4⟩:=ax q1 q2 q4;clear q1 q2 q4;go_wp2_with fail
    go_meet
    exact⟨_,a,b,c,d,o,rfl,Q1,Q2,q3,Q4,hSeen⟩
 case rest =>
  obtain⟨g,a,b,c,d,o,rfl,hS,hR,hne,hn,hSeen⟩:=hcut;clear HZ0 HN0 HS cx cy hb1 hb2;have f0:=bf hR.o 0;have f1:=bf hR.o 1;have f2:=bf hR.o 2;have f3:=bf hR.o 3;have f4:=bf hR.o 4;obtain⟨r0,r1,r2,r3,r4⟩:=bF hR.o;obtain⟨e0,e1,e2,e3,e4⟩:=bF hS.o;have hn2:=hid (dF hn.o (g:=w.heap.size) (Nat.le_refl _) a b c d o);have hR2:=hid (gz hR.o a b c d o);go_wp2;clear f0 f1 f2 f3 f4 r0 r1 r2 r3 r4 e0 e1 e2 e3 e4;rw[← set5];generalize set5 _ w.heap.size a b c d o=w2 at *;obtain⟨q0,q1,q2,q3,q4⟩:=bF hR2.o;refine bodyPost_ret (v:=Stp a b c d o) (by simp[results,Tryz.results190,go_sem,Stp,q0,q1,q2,q3,q4]) rfl ⟨a,b,c,d,o,rfl,hSeen,hn2.o⟩
theorem uA (v1 v2:Value)(X Y:Nat)(hYX:Y≤X)(hl2:2≤(aa X).length)(hl:(aa X).length≤80000)(w:World)(h1:Rd .u64 w v1 (aa X))(h2:Rd .u64 w v2 (aa Y)) :
 Calls Tryz.prog 190 #[v1,v2] w fun e w'=>∃ (a b c d:Nat) (o:Bool),e=.returned (Stp a b c d o)∧Hid (Seen X Y a b c d o)∧Below w.heap.size w w':=by
 obtain⟨n,hn⟩:∃ n,n=(aa X).length:=⟨_,rfl⟩;have hlY:(aa Y).length≤n:=by rw[hn];exact aN hYX
 have hX:=aS X;have hY:=aS Y;have hw0:=(Below.refl w.heap.size w).alloc (Nat.le_refl _) (.cells #[.int .u64 0,.int .u64 0,.int .u64 0,.int .u64 0,.bool false] 192);have HR1:=hid (h1.below hw0);have HR2:=hid (h2.below hw0);obtain⟨b1,o1,c1,rfl,_,_,hb1,r1⟩:=dO h1 (by omega);obtain⟨h,hh⟩:∃ h,h=(aa X).getD (n-1) 0:=⟨_,rfl⟩;have hne:aa X≠[]:=by intro e;rw[e]at hl2;simp at hl2
 have hh1:1≤h:=by
  have:=lD X hne
  have e:(aa X).getD (n-1) 0=(aa X).getLast hne:=by
   rw[List.getLast_eq_getElem,List.getD_eq_getElem?_getD,List.getElem?_eq_getElem (by omega)];simp[hn]
  rw[hh,e];omega
 have hhB:h<BB:=by rw[hh];exact getD_lt hX _
 have hc:=r1 (n-1) (by omega);rw[← hh]at hc;rw[← hn]at hl2 hl HR1 ⊢;obtain ⟨HN,HH,HHB,HYX,HLY,HX,HY,HZ0,HW0⟩:=bK hn hh hhB hYX hlY hX hY (kR w 0 0 0 0 false) hw0;clear hn hh hhB hYX hlY hX hY hw0 r1 hne h1 h2;go_enter Tryz.func190,Tryz.ntmps190
 go_wp2;go_loop [7] (fun t=>∃ s:Nat,t=.int .u64 (s:Int)∧s≤1000000000∧Hid (Ten s)∧Hid (h*s<BB)) (fun t=>scM t)
 case atStart=>exact⟨1,rfl,by omega,Ten.one,by show h*1<BB;rw[Nat.mul_one];exact HHB.o⟩
 case round =>
  obtain⟨s,rfl,hs9,hT,hB⟩:=hrel;obtain⟨p,hp⟩:∃ p:Nat,p=h*s:=⟨_,rfl⟩;have hpB:p<1000000000:=by have:=hB.o;rw[aI]at this;omega
  have e1:(h:Int)*(s:Int)=(p:Int):=by rw[hp,Int.natCast_mul]
  have v1:IntKind.u64.wrap (p:Int)=(p:Int):=IntWalk.u64_in _ (by omega);have v2':IntKind.u64.wrap ((p:Int)*10)=(p:Int)*10:=IntWalk.u64_in _ (by omega);have v3:IntKind.u64.wrap ((s:Int)*10)=(s:Int)*10:=IntWalk.u64_in _ (by omega);have hs1:=hT.o.pos
  have hsp:s≤p:=by
   have:1*s≤h*s:=Nat.mul_le_mul_right _ hh1;omega
  have HP:=hid hp;clear hp;by_cases hlt:p*10<1000000000
  · have hd:decide ((p:Int)*10<1000000000)=true:=decide_eq_true (by omega)
    have HLT:=hid hlt;have hs10:s≤100000000:=by omega
    clear hlt hpB hs9;go_wp2;go_round
    case rel=>exact⟨s*10,by go_num,by omega,hT.o.step hh1 (by rw[← HP.o,aI];exact HLT.o),by show h*(s*10)<BB;rw[← Nat.mul_assoc,← HP.o,aI];exact HLT.o⟩
    case measure=>unfold scM;simp only[intOf];omega
  · have hd:decide ((p:Int)*10<1000000000)=false:=decide_eq_false (by omega)
    obtain⟨t,ht,hst⟩:=hT.o.room;have hB':=hB.o
    have hBY:(aa Y).getD (n-1) 0*s<BB:=by
        have:=yM (aa X) (aa Y) HX.o n (by omega) (by rw[← HN.o];exact Nat.le_refl _) HLY.o (by rw[aB,aB];exact HYX.o);rw[← HH.o]at this;exact Nat.lt_of_le_of_lt (Nat.mul_le_mul_right _ this) hB'
    rw[HH.o]at hB';have L1:=hid (ow _ (aa X) n s t hl2 (by omega) (by rw[← HN.o];omega) HX.o hst hs1 hB' _ HR1.o);have L2:=hid (ow v2 (aa Y) n s t hl2 (by omega) (by have:=HLY.o;omega) HY.o hst hs1 hBY _ HR2.o)
    have hlt1:lead (aa X) n s<1000000000000000000:=by
        have:=vT (getD_lt HX.o (n-2)) (l:=third (aa X) n) (by unfold third;split;exact getD_lt HX.o _;exact bR) hst hs1 hB';rw[aI]at this;unfold lead
        rw[aI];exact this
    have SS:=hid (fun W=>qV _ _ hlt1 (z0E hl2 HN.o.symm HYX.o hst hs1 ht) W);unfold Stp at SS
    have hseen:=hid (fun a b c d o (h:uX (lead (aa X) n s) (lead (aa Y) n s) a b c d o)=>z0c hl2 HN.o.symm HYX.o hst hs1 ht hB' h);clear hst ht hB' hBY hlt1 hlt hpB hs9;generalize lead (aa X) n s=l1 at *;generalize lead (aa Y) n s=l2 at *;go_wp2_with fail
    refine L1.o.mono ?_;rintro e w' ⟨rfl,rfl⟩;go_wp2_with fail
    refine L2.o.mono ?_;rintro e w' ⟨rfl,rfl⟩;go_wp2_with fail
    refine(SS.o _).mono ?_;rintro e w1 ⟨a,b,c,d,o,rfl,hsu,hb1⟩;have hSeen:=hid (hseen.o a b c d o hsu.o);have hR:=bJ HZ0.o hb1;have f0:=bf hR 0;have f1:=bf hR 1;have f2:=bf hR 2;have f3:=bf hR 3;have f4:=bf hR 4;obtain⟨r0,r1,r2,r3,r4⟩:=bF hR;have hn2:=hid (dF (HW0.o.trans (hb1.mono HW0.o.size)) (g:=w.heap.size) (Nat.le_refl _) a b c d o);have hR2:=hid (gz hR a b c d o);clear hR hb1 hsu;go_wp2;clear f0 f1 f2 f3 f4 r0 r1 r2 r3 r4;rw[← set5];generalize set5 _ w.heap.size a b c d o=w2 at *;obtain⟨q0,q1,q2,q3,q4⟩:=bF hR2.o;refine bodyPost_ret (v:=Stp a b c d o) (by simp[results,Tryz.results190,go_sem,Stp,q0,q1,q2,q3,q4]) rfl ⟨a,b,c,d,o,rfl,hSeen,hn2.o⟩
theorem oI (v1 v2:Value)(X Y:Nat)(h0:Y≠0)(hYX:Y≤X)(hl:(aa X).length≤80000)(w:World)(h1:Rd .u64 w v1 (aa X))(h2:Rd .u64 w v2 (aa Y)) :
 Calls Tryz.prog 190 #[v1,v2] w fun e w'=>∃ (a b c d:Nat) (o:Bool),e=.returned (Stp a b c d o)∧Hid (Seen X Y a b c d o)∧Below w.heap.size w w':=by
 by_cases h:2≤(aa X).length
 · exact uA v1 v2 X Y hYX h hl w h1 h2
 · refine vZ v1 v2 X Y h0 hYX ?_ w h1 h2
   have:aa X≠[]:=by
    intro e;have:=aB X;rw[e]at this;simp[aj]at this
    omega
   have:=List.length_pos_iff.2 this;omega
