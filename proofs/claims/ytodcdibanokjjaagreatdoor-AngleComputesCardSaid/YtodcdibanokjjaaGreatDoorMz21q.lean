/- texts -/
import Derived.Test.YtodcdibanokjjaaGreatDoorMz20q
import Derived.Lib.CutLaws
import Derived.Test.YtodcdibanokjjaaGreatDoorMz19q
import Derived.Deep.DeepCutAuto
namespace Go.Proofs.YtodcdibanokjjaaGreatDoor
open Go.RowKit Go.Gb
theorem index_hit (c:UInt8)(a b:List UInt8)(h:c∉a):Lib.index (a++c :: b) [c]=a.length:=by
 refine Lib.index_first (by simp) ?_ ?_
 · simp[Lib.occAt,List.isPrefixOf]
 · intro j hj
   unfold Lib.occAt
   rw[List.drop_append_of_le_length (by omega)]
   cases hd:a.drop j with
   | nil=>exact absurd (List.drop_eq_nil_iff.1 hd) (by omega)
   | cons x t =>
     have hx:x∈a:=List.mem_of_mem_drop (hd▸List.mem_cons_self);have h1:¬ c=x:=by rintro rfl;exact h hx
     simp[List.isPrefixOf,h1]
theorem oW (c:UInt8):∀ l:List UInt8,c∉l→Lib.index l [c] = -1
 | [],_=>rfl
 | x :: l,h=>by
   have h1:¬ c=x:=by rintro rfl;exact h List.mem_cons_self
   have h2:=oW c l (fun hm=>h (List.mem_cons_of_mem _ hm));unfold Lib.index
   rw[h2];simp[List.isPrefixOf,h1]
theorem z0w (c:UInt8)(a b:List UInt8)(h:c∉a):Lib.cut (a++c :: b) [c]=(a,b,true):=by
 unfold Lib.cut
 rw[index_hit c a b h,if_pos (by omega)];simp
theorem wL (c:UInt8)(l:List UInt8)(h:c∉l):Lib.cut l [c]=(l,[],false):=by
 unfold Lib.cut
 rw[oW c l h];rfl
theorem nP (c:UInt8)(l:List UInt8):(c∉l∧Lib.cut l [c]=(l,[],false))∨∃ a b,c∉a∧l=a++c :: b∧Lib.cut l [c]=(a,b,true):=by
 by_cases h:c∈l
 · obtain⟨a,b,e,hn⟩:=List.eq_append_cons_of_mem h
   exact Or.inr ⟨a,b,hn,e,by rw[e];exact z0w c a b hn⟩
 · exact Or.inl ⟨h,wL c l h⟩
theorem z0t (c:UInt8)(hc:isD c=false)(n:Nat):c∉Lib.decDigits n:=by
 intro h;have:=List.all_eq_true.1 (iQ n) c h;rw[hc]at this;cases this
theorem z1v (c:UInt8)(hc:isD c=false)(h45:c≠45)(z:Int):c∉(Sz z).data.toList:=by
 rcases bT z with⟨n,hn,rfl⟩|rfl|⟨n,hn,rfl⟩
 · rw[iX hn]
   intro h;rcases List.mem_cons.1 h with h|h
   · exact h45 h
   · exact z0t c hc n h
 · rw[show Sz 0=Sn 0 from dK 0,bY];exact z0t c hc 0
 · rw[dK,bY];exact z0t c hc n
def Sq (q:Rat):ByteArray:=if q.den=1 then Sz q.num else ⟨((Sz q.num).data.toList++47 :: Lib.decDigits q.den).toArray⟩
theorem iY {q:Rat}(h:q.den=1):Sq q=Sz q.num:=by unfold Sq;rw[if_pos h]
theorem pQ {q:Rat}(h:q.den≠1):Sq q=⟨((Sz q.num).data.toList++47 :: Lib.decDigits q.den).toArray⟩:=by unfold Sq;rw[if_neg h]
theorem gM {q:Rat}(h:q.den≠1):(Sq q).data.toList=(Sz q.num).data.toList++47 :: Lib.decDigits q.den:=by rw[pQ h]
theorem vH (z:Int):Sq (Rat.ofInt z)=Sz z:=iY rfl
theorem wM {q:Rat}(h:q.den≠1):Lib.cut (Sq q).data.toList [47]=((Sz q.num).data.toList,Lib.decDigits q.den,true):=by
 rw[gM h];exact z0w 47 _ _ (z1v 47 (by decide) (by decide) _)
theorem z0v (z:Int):Lib.cut (Sz z).data.toList [47]=((Sz z).data.toList,[],false):=wL 47 _ (z1v 47 (by decide) (by decide) _)
def vldP (n d:List UInt8):Bool:=vldZ n&&vldZ d && !(d==[49])&&decide (1≤zval d)&&(Nat.gcd (zval n).natAbs (zval d).natAbs==1)
def vldQ (l:List UInt8):Bool:=if (Lib.cut l [47]).2.2 then vldP (Lib.cut l [47]).1 (Lib.cut l [47]).2.1 else vldZ l
def qval (l:List UInt8):Rat:=if (Lib.cut l [47]).2.2 then mkRat (zval (Lib.cut l [47]).1) (zval (Lib.cut l [47]).2.1).toNat else Rat.ofInt (zval l)
theorem z3f {l:List UInt8}(h:vldZ l=true):(Sz (zval l)).data.toList=l:=by
 have h1:=yX (a:=⟨l.toArray⟩) (by simpa using h);have h2:=congrArg (fun b:ByteArray=>b.data.toList) h1;simpa using h2.symm
theorem z2v {l:List UInt8}(h:vldZ l=true)(h1:1≤zval l):l=Lib.decDigits (zval l).toNat:=by
 have h2:=z3f h;obtain⟨n,hn⟩:∃ n:Nat,zval l=n:=⟨(zval l).toNat,by omega⟩;rw[hn,dK,bY]at h2;rw[hn,Int.toNat_natCast,h2]
theorem xL (z:Int)(n:Nat)(hn:n≠0)(hg:Nat.gcd z.natAbs n=1):(mkRat z n).num=z∧(mkRat z n).den=n:=by
 have h:=mG z n hn;rw[hg]at h;simpa using h
theorem z4K {a:ByteArray}(h:vldQ a.data.toList=true):a=Sq (qval a.data.toList):=by
 cases a with
 | mk d =>
   simp only at h ⊢;obtain⟨l,rfl⟩:∃ l:List UInt8,d=l.toArray:=⟨d.toList,rfl⟩;simp only at h ⊢;rcases nP 47 l with⟨_,e⟩|⟨x,y,_,el,e⟩
   · unfold vldQ at h
     unfold qval
     rw[e]at h ⊢;simp only[Bool.false_eq_true,if_false]at h ⊢;rw[vH];have h2:=yX (a:=⟨l.toArray⟩) (by simpa using h);simpa using h2
   · unfold vldQ at h
     unfold qval
     rw[e]at h ⊢;simp only[if_true]at h ⊢;unfold vldP at h
     simp only[Bool.and_eq_true,decide_eq_true_eq,Bool.not_eq_true',beq_iff_eq]at h;obtain⟨⟨⟨⟨h1,h2⟩,h3⟩,h4⟩,h5⟩:=h;have hy:=z2v h2 h4;have hx:=z3f h1;obtain⟨m,hm⟩:∃ m:Nat,zval y=m:=⟨(zval y).toNat,by omega⟩;rw[hm]at h4 h5 hy ⊢;rw[Int.toNat_natCast]at hy ⊢;rw[Int.natAbs_natCast]at h5;obtain⟨p1,p2⟩:=xL (zval x) m (by omega) h5
     have hm1:m≠1:=by
        intro h6;subst h6;rw[Lib.decDigits_one (by decide)]at hy;rw[hy]at h3;simp at h3
     rw[pQ (by rw[p2];exact hm1),p1,p2,hx,← hy,el]
theorem z3g (q:Rat):qval (Sq q).data.toList=q:=by
 unfold qval
 by_cases h:q.den=1
 · rw[iY h,z0v]
   simp only[Bool.false_eq_true,if_false];rw[vE];exact Rat.ext rfl h.symm
 · rw[wM h]
   simp only[if_true];rw[vE,mD,Int.toNat_natCast];exact Rat.mkRat_self q
theorem zi (q:Rat):(Sq q).toList=(Sq q).data.toList:=toList_data _
theorem zh {x y:Rat}(h:x≠y):((Sq x).toList==(Sq y).toList)=false:=by
 rw[beq_eq_false_iff_ne,zi,zi];intro h2;apply h
 rw[← z3g x,← z3g y,h2]
def SmQ (k:Nat) (q:Rat):Prop:=Sm k q.num.natAbs∧Sm k q.den
def aO (q:Rat):Prop:=SmQ 900 q
theorem SmQ.mono {k l:Nat}{q:Rat}(h:SmQ k q)(hkl:k≤l):SmQ l q:=⟨h.1.mono hkl,h.2.mono hkl⟩
theorem SmQ.fit {k:Nat}{q:Rat}(h:SmQ k q)(hk:k≤900):aO q:=SmQ.mono h hk
theorem SmQ.neg {k:Nat}{q:Rat}(h:SmQ k q):SmQ k (-q):=by
 obtain⟨e1,e2⟩:=z00 q;unfold SmQ
 rw[e1,e2,Int.natAbs_neg];exact h
theorem z4V (z:Int)(n:Nat)(hn:n≠0):(mkRat z n).num.natAbs≤z.natAbs∧(mkRat z n).den≤n:=by
 obtain⟨e1,e2⟩:=mG z n hn;rw[e1,e2];exact⟨Int.natAbs_ediv_le_natAbs _ _,Nat.div_le_self _ _⟩
theorem z3j {k:Nat}{z:Int}{n:Nat}(hn:n≠0)(h1:Sm k z.natAbs)(h2:Sm k n):SmQ k (mkRat z n):=by
 obtain⟨e1,e2⟩:=z4V z n hn;exact⟨h1.le e1,h2.le e2⟩
theorem iF (x y:Rat):x.den*y.den≠0:=Nat.mul_ne_zero x.den_nz y.den_nz
theorem SmQ.add {k l:Nat}{x y:Rat}(hx:SmQ k x)(hy:SmQ l y):SmQ (k+l+1) (x+y):=by
 rw[jl];refine z3j (iF x y) ?_ ((hx.2.mul hy.2).mono (by omega));refine Sm.le ?_ (Int.natAbs_add_le _ _);rw[Int.natAbs_mul,Int.natAbs_mul,Int.natAbs_natCast,Int.natAbs_natCast];exact Sm.add (hx.1.mul hy.2) ((hy.1.mul hx.2).mono (by omega))
theorem SmQ.sub {k l:Nat}{x y:Rat}(hx:SmQ k x)(hy:SmQ l y):SmQ (k+l+1) (x-y):=by
 rw[Rat.sub_eq_add_neg];exact hx.add hy.neg
theorem SmQ.mul {k l:Nat}{x y:Rat}(hx:SmQ k x)(hy:SmQ l y):SmQ (k+l) (x*y):=by
 rw[jb];refine z3j (iF x y) ?_ (hx.2.mul hy.2);rw[Int.natAbs_mul];exact hx.1.mul hy.1
theorem SmQ.inv {k:Nat}{x:Rat}(hx:SmQ k x)(h0:x≠0):SmQ k x⁻¹:=by
 have hn:x.num≠0:=fun h=>h0 (Rat.num_eq_zero.1 h);rcases Int.lt_or_gt_of_ne hn with h|h
 · obtain⟨e1,e2⟩:=kC h
   unfold SmQ
   rw[e1,Int.natAbs_neg,Int.natAbs_natCast,show(x⁻¹).den=x.num.natAbs by omega];exact⟨hx.2,hx.1⟩
 · obtain⟨e1,e2⟩:=nI h
   unfold SmQ
   rw[e1,Int.natAbs_natCast,show(x⁻¹).den=x.num.natAbs by omega];exact⟨hx.2,hx.1⟩
theorem SmQ.div {k l:Nat}{x y:Rat}(hx:SmQ k x)(hy:SmQ l y)(h0:y≠0):SmQ (k+l) (x / y):=by
 rw[Rat.div_def];exact hx.mul (hy.inv h0)
theorem iZ {z:Int}{k:Nat}(h:(Sz z).size≤k):Sm k z.natAbs:=by
 rcases bT z with⟨n,hn,rfl⟩|rfl|⟨n,hn,rfl⟩
 · rw[Int.natAbs_neg,Int.natAbs_natCast]
   rw[iX hn]at h
   have h1:=Sm.of (a:=Sn n) (k:=k) (dV n) (by
    have h2:(Sn n).size=(Lib.decDigits n).length:=by rw[← aH,bY]
    have h3:(⟨(45 :: Lib.decDigits n).toArray⟩:ByteArray).size=(Lib.decDigits n).length+1:=by simp[ByteArray.size]
    omega)
   rwa [bW]at h1
 · rw[show Sz 0=Sn 0 from dK 0]at h
   have h1:=Sm.of (a:=Sn 0) (k:=k) (dV 0) h;rwa [bW]at h1
 · rw[Int.natAbs_natCast]
   rw[dK]at h;have h1:=Sm.of (a:=Sn n) (k:=k) (dV n) h;rwa [bW]at h1
theorem z3i {q:Rat}{k:Nat}(h:(Sq q).size≤k)(hk:0<k):SmQ k q:=by
 by_cases h1:q.den=1
 · rw[iY h1]at h
   refine⟨iZ h,?_⟩;rw[h1];exact Nat.one_lt_pow (by omega) (by decide)
 · have h2:(Sq q).size=(Sz q.num).size+1+(Sn q.den).size:=by
    rw[← aH,gM h1,← aH,← aH,bY];simp;omega
   refine⟨iZ (by omega),?_⟩;have h3:=Sm.of (a:=Sn q.den) (k:=k) (dV _) (by omega);rwa [bW]at h3
theorem aO.num {q:Rat}(h:aO q):FitZ q.num:=by unfold FitZ Fit;exact Sm.mono (k:=900) h.1 (by decide)
theorem aO.den {q:Rat}(h:aO q):Fit q.den:=by unfold Fit;exact Sm.mono (k:=900) h.2 (by decide)
theorem jL {z:Int}{k:Nat}(h:Sm k z.natAbs)(hk:0<k):(Sz z).size≤k+1:=by
 rcases bT z with⟨n,hn,rfl⟩|rfl|⟨n,hn,rfl⟩
 · rw[Int.natAbs_neg,Int.natAbs_natCast]at h
   have h1:=ic h hk;have h2:(Sn n).size=(Lib.decDigits n).length:=by rw[← aH,bY]
   have h3:(Sz (-(n:Int))).size=(Lib.decDigits n).length+1:=by rw[iX hn];simp[ByteArray.size]
   omega
 · have h1:=ic h hk
   rw[show Sz 0=Sn 0 from dK 0];simp at h1
   omega
 · rw[Int.natAbs_natCast]at h
   have h1:=ic h hk;rw[dK];omega
theorem zg {q:Rat}{k:Nat}(h:SmQ k q)(hk:0<k):(Sq q).size≤k+1+1+k:=by
 have h1:=jL h.1 hk;have h2:=ic h.2 hk;by_cases h3:q.den=1
 · rw[iY h3];omega
 · have h4:(Sq q).size=(Sz q.num).size+1+(Sn q.den).size:=by
    rw[← aH,gM h3,← aH,← aH,bY];simp;omega
   omega
theorem oP {n:Nat}(h:n<10^18):Lib.parseIntB 64 (Lib.decDigits n)=.ok (n:Int):=by
 have hl:(Lib.decDigits n).length≤18:=qB 18 n h (by decide);have hp:=nz (Lib.decDigits n) (mZ n) (by omega);rw[fI]at hp;obtain⟨c,t,hd,hc⟩:=jB (n:=n);have hD:isD c=true:=List.all_eq_true.1 (iQ n) c (by rw[hd];exact List.mem_cons_self);have hD':=(eT c).1 hD;rw[hd]at hp ⊢;unfold Lib.parseIntB
 have h1:¬ c.toNat=43:=by omega
 have h2:¬ c.toNat=45:=by omega
 simp only[h1,h2,or_self,if_false,hp]
 have h3:¬ (2^(64-1)≤n):=by
  have:(10:Nat)^18<2^(64-1):=by decide
  omega
 simp[h3]
theorem xK {n:Nat}(h:n<10^18):Lib.parseIntB 64 (45 :: Lib.decDigits n)=.ok (-(n:Int)):=by
 have hl:(Lib.decDigits n).length≤18:=qB 18 n h (by decide);have hp:=nz (Lib.decDigits n) (mZ n) (by omega);rw[fI]at hp;unfold Lib.parseIntB
 have e:(45:UInt8).toNat=45:=rfl;simp only[e,or_true,if_true,hp]
 have h3:¬ (2^(64-1)<n):=by
  have:(10:Nat)^18<2^(64-1):=by decide
  omega
 simp[h3]
theorem z1S {z:Int}(h:(Sz z).size≤18):Lib.parseIntB 64 (Sz z).data.toList=.ok z:=by
 have hs:=iZ h;rcases bT z with⟨n,hn,rfl⟩|rfl|⟨n,hn,rfl⟩
 · rw[Int.natAbs_neg,Int.natAbs_natCast]at hs
   rw[iX hn];exact xK hs
 · rw[show Sz 0=Sn 0 from dK 0,bY]
   exact oP (by decide)
 · rw[Int.natAbs_natCast]at hs
   rw[dK,bY];exact oP hs
theorem z09 (z:Int):(⟨(Lib.itoa z).toArray⟩:ByteArray)=Sz z:=by
 unfold Lib.itoa Sz
 split
 · rfl
 · unfold Sn
   rw[show z.toNat=z.natAbs by omega]
set_option maxRecDepth 100000
set_option maxHeartbeats 20000000
open Go.Lib (hid)
def Seen (X Y a b c d:Nat) (o:Bool):Prop:=b=0∨∃ f s,Made a b c d o X Y f s∧s≤f∧Fac a b c d∧Dtm a b c d o∧d≤1000000000
theorem z1C {X Y a b c d:Nat}{o:Bool}(hX:X<1000000000)(h0:Y≠0)(h:il X Y (Nat.gcd X Y) 0 a b c d o)(hf:Fac a b c d)(hd:Dtm a b c d o):Seen X Y a b c d o:=by
 have hg:0<Nat.gcd X Y:=Nat.gcd_pos_of_pos_right _ (by omega);have hb:=h.bound hg;obtain⟨_,_,_,k1,k2⟩:=h;exact Or.inr ⟨_,_,⟨k2,k1⟩,Nat.zero_le _,hf,hd,by omega⟩
theorem zB {X Y n s t a b c d:Nat}{o:Bool}(hn:2≤n)(hl:(ae X).length=n)(hYX:Y≤X)(hst:BB=s*t)(hs:0<s)(ht:0<t)(hh:(ae X).getD (n-1) 0*s<BB)
 (h:tF (lead (ae X) n s) (lead (ae Y) n s) a b c d o):Seen X Y a b c d o:=by
 have hX:=aT X;have hY:=aT Y;have hlY:(ae Y).length≤n:=by rw[← hl];exact aP hYX
 obtain⟨x1,x2⟩:=ky (ae X) hX n s t hn (by omega) hst hs ht;obtain⟨y1,y2⟩:=ky (ae Y) hY n s t hn hlY hst hs ht;rw[az]at x1 x2 y1 y2;have hlt:lead (ae X) n s<BB*BB:=uo (getD_lt hX (n-2)) (by unfold third;split;exact getD_lt hX _;exact bK) hst hs hh;obtain⟨hf,hd,h⟩:=h;rcases h with h|⟨x,y,hE,hyx,hdy,hbd⟩
 · exact Or.inl h
 · right
   obtain⟨f,s',hm,hsf⟩:=sM hE hf hyx hdy hbd hs x1 x2 y1 y2;refine⟨f,s',hm,hsf,hf,hd,?_⟩;have:=xy hE hlt hyx hdy;rw[aJ]at this;omega
theorem z07 {X Y n s t:Nat}(hn:2≤n)(hl:(ae X).length=n)(hYX:Y≤X)(hst:BB=s*t)(hs:0<s)(ht:0<t):lead (ae Y) n s≤lead (ae X) n s:=by
 have hlY:(ae Y).length≤n:=by rw[← hl];exact aP hYX
 obtain⟨x1,x2⟩:=ky (ae X) (aT X) n s t hn (by omega) hst hs ht;obtain⟨y1,y2⟩:=ky (ae Y) (aT Y) n s t hn hlY hst hs ht;rw[az]at x1 x2 y1 y2;have h1:s*Y≤s*X:=Nat.mul_le_mul_left _ hYX;have h2:lead (ae Y) n s*BB^(n-2)<(lead (ae X) n s+1)*BB^(n-2):=by omega
 have:=Nat.lt_of_mul_lt_mul_right h2;omega
def scM (v:Value):Nat:=1000000001-(intOf v).toNat
theorem kg (w1:World)(a b c d:Nat)(o:Bool):Sb (w1.alloc (.cells #[.int .u64 (a:Int),.int .u64 (b:Int),.int .u64 (c:Int),.int .u64 (d:Int),.bool o] 181)) w1.heap.size a b c d o:=by
 unfold Sb
 rw[heap_alloc_new]
theorem vK {w1:World}{g a b c d:Nat}{o:Bool}(h:Sb w1 g a b c d o)(x:Obj):Sb (w1.alloc x) g a b c d o:=bI h ((Below.refl _ w1).alloc (Nat.le_refl _) x)
theorem tZ {w1:World}{g a b c d:Nat}{o:Bool}(h:Sb w1 g a b c d o):Sb w1.drew g a b c d o:=h
theorem zA {w w1:World}(a b c d:Nat)(o:Bool)(hb:Below (w.alloc (.cells #[.int .u64 0,.int .u64 0,.int .u64 0,.int .u64 0,.bool false] 181)).drew.heap.size (w.alloc (.cells #[.int .u64 0,.int .u64 0,.int .u64 0,.int .u64 0,.bool false] 181)).drew w1) :
 Sb (w1.alloc (.cells #[.int .u64 (a:Int),.int .u64 (b:Int),.int .u64 (c:Int),.int .u64 (d:Int),.bool o] 181)) w1.heap.size a b c d o ∧
 Sb (w1.alloc (.cells #[.int .u64 (a:Int),.int .u64 (b:Int),.int .u64 (c:Int),.int .u64 (d:Int),.bool o] 181)) w.heap.size 0 0 0 0 false∧w1.heap.size≠w.heap.size ∧
 Below w.heap.size w (w1.alloc (.cells #[.int .u64 (a:Int),.int .u64 (b:Int),.int .u64 (c:Int),.int .u64 (d:Int),.bool o] 181)):=by
 have hz:=hb.size;have e:(w.alloc (.cells #[.int .u64 0,.int .u64 0,.int .u64 0,.int .u64 0,.bool false] 181)).drew.heap.size=w.heap.size+1:=World.size_alloc _ _;rw[e]at hz;have h1:Sb w1 w.heap.size 0 0 0 0 false:=bI (show Sb (w.alloc (.cells #[.int .u64 0,.int .u64 0,.int .u64 0,.int .u64 0,.bool false] 181)).drew w.heap.size 0 0 0 0 false from kg w 0 0 0 0 false) hb;refine⟨kg w1 a b c d o,vK h1 _,by omega,?_⟩;refine Below.alloc ?_ (by omega) _;exact(((Below.refl w.heap.size w).alloc (Nat.le_refl _) _).drew).trans (hb.mono (by rw[e];omega))
theorem zy {w w1:World}(a b c d:Nat)(o:Bool)(hb:Below ((w.alloc (.cells #[.int .u64 0,.int .u64 0,.int .u64 0,.int .u64 0,.bool false] 181)).alloc (.cells #[.int .u64 0,.int .u64 0,.int .u64 0,.int .u64 0,.bool false] 181)).drew.heap.size ((w.alloc (.cells #[.int .u64 0,.int .u64 0,.int .u64 0,.int .u64 0,.bool false] 181)).alloc (.cells #[.int .u64 0,.int .u64 0,.int .u64 0,.int .u64 0,.bool false] 181)).drew w1) :
 Sb (set5 w1 (w.heap.size+1) a b c d o) (w.heap.size+1) a b c d o∧Sb (set5 w1 (w.heap.size+1) a b c d o) w.heap.size 0 0 0 0 false∧w.heap.size+1≠w.heap.size∧Below w.heap.size w (set5 w1 (w.heap.size+1) a b c d o):=by
 have e:((w.alloc (.cells #[.int .u64 0,.int .u64 0,.int .u64 0,.int .u64 0,.bool false] 181)).alloc (.cells #[.int .u64 0,.int .u64 0,.int .u64 0,.int .u64 0,.bool false] 181)).drew.heap.size=w.heap.size+1+1:=by
  show(World.alloc _ _).heap.size=_
  rw[World.size_alloc,World.size_alloc]
 have z1:=kg w 0 0 0 0 false;have z2:=kg (w.alloc (.cells #[.int .u64 0,.int .u64 0,.int .u64 0,.int .u64 0,.bool false] 181)) 0 0 0 0 false;rw[World.size_alloc]at z2;have h1:Sb w1 w.heap.size 0 0 0 0 false:=bI (tZ (vK z1 _)) hb;have h2:Sb w1 (w.heap.size+1) 0 0 0 0 false:=bI (tZ z2) hb;refine⟨fD h2 a b c d o,dF h1 (by omega) a b c d o,by omega,dh ?_ (by omega) a b c d o⟩;exact((((Below.refl w.heap.size w).alloc (Nat.le_refl _) _).alloc (by rw[World.size_alloc];omega) _).drew).trans (hb.mono (by rw[e];omega))
theorem uy (v1 v2:Value)(X Y:Nat)(h0:Y≠0)(hYX:Y≤X)(hl:(ae X).length=1)(w:World)(h1:Rd .u64 w v1 (ae X))(h2:Rd .u64 w v2 (ae Y)) :
 Calls Tryz.prog 193 #[v1,v2] w fun e w'=>∃ (a b c d:Nat) (o:Bool),e=.returned (Stp a b c d o)∧Hid (Seen X Y a b c d o)∧Below w.heap.size w w':=by
 have dX:ae X=[X]:=by
  match hd:ae X,hl with
  | [x],_=>have:=az X;rw[hd]at this;simp[aj]at this;rw[this]
 have hX:X<BB:=by have:=aT X X (by rw[dX];simp);exact this
 have dY:ae Y=[Y]:=by
  have h:=kN (w:=Y) (n:=0) (by omega) (Or.inl h0);rw[aS]at h;simpa using h
 rw[dX]at h1;rw[dY]at h2;rw[aJ]at hX;obtain⟨b1,o1,c1,rfl,_,_,hb1,r1⟩:=dE h1 (by simp);obtain⟨b2,o2,c2,rfl,_,_,hb2,r2⟩:=dE h2 (by simp);have cx:=r1 0 (by simp);have cy:=r2 0 (by simp);simp only[Nat.add_zero,List.getD_cons_zero]at cx cy;rw[show[X].length=1 from rfl,show[Y].length=1 from rfl]
 have HS:=hid (fun W=>sS X Y (by omega) (by omega) (fun x y a b c d o=>Fac a b c d∧Dtm a b c d o∧y≤x) ⟨Fac.start,Dtm.start,hYX⟩
  (fun x y a b c d o hy _ hI=>⟨hI.1.step (by rw[Nat.le_div_iff_mul_le hy];omega),hI.2.1.step,Nat.le_of_lt (Nat.mod_lt x hy)⟩) W)
 unfold Stp at HS
 have HX:=hid hX;have H0:=hid h0
 have z0:Sb (w.alloc (.cells #[.int .u64 0,.int .u64 0,.int .u64 0,.int .u64 0,.bool false] 181)) w.heap.size 0 0 0 0 false:=by
  unfold Sb
  rw[heap_alloc_new];rfl
 have HZ0:=hid z0;have HN0:=hid ((Below.refl w.heap.size w).alloc (Nat.le_refl _) (.cells #[.int .u64 0,.int .u64 0,.int .u64 0,.int .u64 0,.bool false] 181));clear h0 hYX hl h1 h2 dX dY hX r1 r2 z0;go_enter Tryz.func193,Tryz.ntmps193
 go_upto_region 2 with fail
 go_cut [6] (fun v6 wx=>∃ (g a b c d:Nat) (o:Bool),v6=.pointer (some ⟨g,0,none⟩)∧Hid (Sb wx g a b c d o)∧Hid (Sb wx w.heap.size 0 0 0 0 false)∧g≠w.heap.size∧Hid (Below w.heap.size w wx)∧Hid (Seen X Y a b c d o))
 case first =>
  go_region_held3 (fun w'=>w'.cell? ⟨b1,o1,none⟩=some (.int .u64 (X:Int))∧w'.cell? ⟨b2,o2,none⟩=some (.int .u64 (Y:Int))) (first|((try go_split_ands);refine⟨?_,?_⟩<;>(first|(with_reducible assumption)|((repeat (first|rw[mY]|rw[eG (by first|assumption|omega|(simp;done)|(simp;omega))]|rw[yR (by omega)]));first|(with_reducible assumption)|(simp;done))))|(go_keep;done))
   (first|(go_at_call 162;(refine(HS.out _).mono ?_);rintro e w1 ⟨a,b,c,d,o,rfl,hEI,hb1⟩;have HEI:=hid hEI;have HB1:=hid hb1;obtain⟨hc1,hf1⟩:=wbc hb1;have hz1:=hb1.size;(try simp at hz1);have sx:w1.cell? ⟨b1,o1,none⟩=some (.int .u64 (X:Int)):=(by rw[hc1 _ _ (by first|omega|(simp;omega))];first|(with_reducible assumption)|(simp;done)|simp[*]);have sy:w1.cell? ⟨b2,o2,none⟩=some (.int .u64 (Y:Int)):=(by rw[hc1 _ _ (by first|omega|(simp;omega))];first|(with_reducible assumption)|(simp;done)|simp[*]);clear hEI))
  all_goals
   obtain⟨hE,hF,hD,_⟩:=HEI.out;have hSeen:=hid (z1C HX.out H0.out hE hF hD);clear hE hF hD HEI
  · obtain⟨q1,q2,q3,q4⟩:=zA a b c d o HB1.out
    obtain ⟨Q1,Q2,Q4⟩:=ai q1 q2 q4;clear q1 q2 q4;go_wp2_with fail
    go_meet
    exact⟨_,a,b,c,d,o,rfl,Q1,Q2,q3,Q4,hSeen⟩
  · obtain⟨q1,q2,q3,q4⟩:=zy a b c d o HB1.out
    obtain ⟨Q1,Q2,Q4⟩:=ai q1 q2 q4;clear q1 q2 q4;go_wp2_with fail
    go_meet
    exact⟨_,a,b,c,d,o,rfl,Q1,Q2,q3,Q4,hSeen⟩
 case rest =>
  obtain⟨g,a,b,c,d,o,rfl,hS,hR,hne,hn,hSeen⟩:=hcut;clear HZ0 HN0 HS cx cy hb1 hb2;have f0:=bi hR.out 0;have f1:=bi hR.out 1;have f2:=bi hR.out 2;have f3:=bi hR.out 3;have f4:=bi hR.out 4;obtain⟨r0,r1,r2,r3,r4⟩:=bE hR.out;obtain⟨e0,e1,e2,e3,e4⟩:=bE hS.out;have hn2:=hid (dh hn.out (g:=w.heap.size) (Nat.le_refl _) a b c d o);have hR2:=hid (fD hR.out a b c d o);go_wp2;clear f0 f1 f2 f3 f4 r0 r1 r2 r3 r4 e0 e1 e2 e3 e4;rw[← set5];generalize set5 _ w.heap.size a b c d o=w2 at *;obtain⟨q0,q1,q2,q3,q4⟩:=bE hR2.out;refine bodyPost_ret (v:=Stp a b c d o) (by simp[results,Tryz.results193,go_sem,Stp,q0,q1,q2,q3,q4]) rfl ⟨a,b,c,d,o,rfl,hSeen,hn2.out⟩
theorem sD (v1 v2:Value)(X Y:Nat)(hYX:Y≤X)(hl2:2≤(ae X).length)(hl:(ae X).length≤80000)(w:World)(h1:Rd .u64 w v1 (ae X))(h2:Rd .u64 w v2 (ae Y)) :
 Calls Tryz.prog 193 #[v1,v2] w fun e w'=>∃ (a b c d:Nat) (o:Bool),e=.returned (Stp a b c d o)∧Hid (Seen X Y a b c d o)∧Below w.heap.size w w':=by
 obtain⟨n,hn⟩:∃ n,n=(ae X).length:=⟨_,rfl⟩;have hlY:(ae Y).length≤n:=by rw[hn];exact aP hYX
 have hX:=aT X;have hY:=aT Y;have hw0:=(Below.refl w.heap.size w).alloc (Nat.le_refl _) (.cells #[.int .u64 0,.int .u64 0,.int .u64 0,.int .u64 0,.bool false] 181);have HR1:=hid (h1.below hw0);have HR2:=hid (h2.below hw0);obtain⟨b1,o1,c1,rfl,_,_,hb1,r1⟩:=dE h1 (by omega);obtain⟨h,hh⟩:∃ h,h=(ae X).getD (n-1) 0:=⟨_,rfl⟩;have hne:ae X≠[]:=by intro e;rw[e]at hl2;simp at hl2
 have hh1:1≤h:=by
  have:=kK X hne
  have e:(ae X).getD (n-1) 0=(ae X).getLast hne:=by
   rw[List.getLast_eq_getElem,List.getD_eq_getElem?_getD,List.getElem?_eq_getElem (by omega)];simp[hn]
  rw[hh,e];omega
 have hhB:h<BB:=by rw[hh];exact getD_lt hX _
 have hc:=r1 (n-1) (by omega);rw[← hh]at hc;rw[← hn]at hl2 hl HR1 ⊢;obtain ⟨HN,HH,HHB,HYX,HLY,HX,HY,HZ0,HW0⟩:=jA hn hh hhB hYX hlY hX hY (kg w 0 0 0 0 false) hw0;clear hn hh hhB hYX hlY hX hY hw0 r1 hne h1 h2;go_enter Tryz.func193,Tryz.ntmps193
 go_wp2;go_loop [7] (fun t=>∃ s:Nat,t=.int .u64 (s:Int)∧s≤1000000000∧Hid (Ten s)∧Hid (h*s<BB)) (fun t=>scM t)
 case atStart=>exact⟨1,rfl,by omega,Ten.one,by show h*1<BB;rw[Nat.mul_one];exact HHB.out⟩
 case round =>
  obtain⟨s,rfl,hs9,hT,hB⟩:=hrel;obtain⟨p,hp⟩:∃ p:Nat,p=h*s:=⟨_,rfl⟩;have hpB:p<1000000000:=by have:=hB.out;rw[aJ]at this;omega
  have e1:(h:Int)*(s:Int)=(p:Int):=by rw[hp,Int.natCast_mul]
  have v1:IntKind.u64.wrap (p:Int)=(p:Int):=IntWalk.u64_in _ (by omega);have v2':IntKind.u64.wrap ((p:Int)*10)=(p:Int)*10:=IntWalk.u64_in _ (by omega);have v3:IntKind.u64.wrap ((s:Int)*10)=(s:Int)*10:=IntWalk.u64_in _ (by omega);have hs1:=hT.out.pos
  have hsp:s≤p:=by
   have:1*s≤h*s:=Nat.mul_le_mul_right _ hh1;omega
  have HP:=hid hp;clear hp;by_cases hlt:p*10<1000000000
  · have hd:decide ((p:Int)*10<1000000000)=true:=decide_eq_true (by omega)
    have HLT:=hid hlt;have hs10:s≤100000000:=by omega
    clear hlt hpB hs9;go_wp2;go_round
    case rel=>exact⟨s*10,by go_num,by omega,hT.out.step hh1 (by rw[← HP.out,aJ];exact HLT.out),by show h*(s*10)<BB;rw[← Nat.mul_assoc,← HP.out,aJ];exact HLT.out⟩
    case measure=>unfold scM;simp only[intOf];omega
  · have hd:decide ((p:Int)*10<1000000000)=false:=decide_eq_false (by omega)
    obtain⟨t,ht,hst⟩:=hT.out.room;have hB':=hB.out
    have hBY:(ae Y).getD (n-1) 0*s<BB:=by
        have:=xq (ae X) (ae Y) HX.out n (by omega) (by rw[← HN.out];exact Nat.le_refl _) HLY.out (by rw[az,az];exact HYX.out);rw[← HH.out]at this;exact Nat.lt_of_le_of_lt (Nat.mul_le_mul_right _ this) hB'
    rw[HH.out]at hB';have L1:=hid (nE _ (ae X) n s t hl2 (by omega) (by rw[← HN.out];omega) HX.out hst hs1 hB' _ HR1.out);have L2:=hid (nE v2 (ae Y) n s t hl2 (by omega) (by have:=HLY.out;omega) HY.out hst hs1 hBY _ HR2.out)
    have hlt1:lead (ae X) n s<1000000000000000000:=by
        have:=uo (getD_lt HX.out (n-2)) (l:=third (ae X) n) (by unfold third;split;exact getD_lt HX.out _;exact bK) hst hs1 hB';rw[aJ]at this;unfold lead
        rw[aJ];exact this
    have SS:=hid (fun W=>pO _ _ hlt1 (z07 hl2 HN.out.symm HYX.out hst hs1 ht) W);unfold Stp at SS
    have hseen:=hid (fun a b c d o (h:tF (lead (ae X) n s) (lead (ae Y) n s) a b c d o)=>zB hl2 HN.out.symm HYX.out hst hs1 ht hB' h);clear hst ht hB' hBY hlt1 hlt hpB hs9;generalize lead (ae X) n s=l1 at *;generalize lead (ae Y) n s=l2 at *;go_wp2_with fail
    refine L1.out.mono ?_;rintro e w' ⟨rfl,rfl⟩;go_wp2_with fail
    refine L2.out.mono ?_;rintro e w' ⟨rfl,rfl⟩;go_wp2_with fail
    refine(SS.out _).mono ?_;rintro e w1 ⟨a,b,c,d,o,rfl,hsu,hb1⟩;have hSeen:=hid (hseen.out a b c d o hsu.out);have hR:=bI HZ0.out hb1;have f0:=bi hR 0;have f1:=bi hR 1;have f2:=bi hR 2;have f3:=bi hR 3;have f4:=bi hR 4;obtain⟨r0,r1,r2,r3,r4⟩:=bE hR;have hn2:=hid (dh (HW0.out.trans (hb1.mono HW0.out.size)) (g:=w.heap.size) (Nat.le_refl _) a b c d o);have hR2:=hid (fD hR a b c d o);clear hR hb1 hsu;go_wp2;clear f0 f1 f2 f3 f4 r0 r1 r2 r3 r4;rw[← set5];generalize set5 _ w.heap.size a b c d o=w2 at *;obtain⟨q0,q1,q2,q3,q4⟩:=bE hR2.out;refine bodyPost_ret (v:=Stp a b c d o) (by simp[results,Tryz.results193,go_sem,Stp,q0,q1,q2,q3,q4]) rfl ⟨a,b,c,d,o,rfl,hSeen,hn2.out⟩
theorem nM (v1 v2:Value)(X Y:Nat)(h0:Y≠0)(hYX:Y≤X)(hl:(ae X).length≤80000)(w:World)(h1:Rd .u64 w v1 (ae X))(h2:Rd .u64 w v2 (ae Y)) :
 Calls Tryz.prog 193 #[v1,v2] w fun e w'=>∃ (a b c d:Nat) (o:Bool),e=.returned (Stp a b c d o)∧Hid (Seen X Y a b c d o)∧Below w.heap.size w w':=by
 by_cases h:2≤(ae X).length
 · exact sD v1 v2 X Y hYX h hl w h1 h2
 · refine uy v1 v2 X Y h0 hYX ?_ w h1 h2
   have:ae X≠[]:=by
    intro e;have:=az X;rw[e]at this;simp[aj]at this
    omega
   have:=List.length_pos_iff.2 this;omega
end Go.Proofs.YtodcdibanokjjaaGreatDoor
set_option maxRecDepth 100000
set_option maxHeartbeats 20000000
open Go.Lib (hid)
namespace Go.Proofs.YtodcdibanokjjaaGreatDoor
open Go.RowKit Go.Gb
def Eb (w:World) (g:Nat) (vf vs vp vq:Value) (n:Bool):Prop:=w.heap[g]? = some (.cells #[vf,vs,vp,vq,.bool n] 188 (0,0))
theorem Eb.lt {w:World}{g:Nat}{vf vs vp vq:Value}{n:Bool}(h:Eb w g vf vs vp vq n):g<w.heap.size:=(Array.getElem?_eq_some_iff.1 h).1
theorem Eb.cells {w:World}{g:Nat}{vf vs vp vq:Value}{n:Bool}(h:Eb w g vf vs vp vq n):w.cell? ⟨g,0,none⟩=some vf∧w.cell? ⟨g,1,none⟩=some vs∧w.cell? ⟨g,2,none⟩=some vp∧w.cell? ⟨g,3,none⟩=some vq∧w.cell? ⟨g,4,none⟩=some (.bool n):=by
 unfold Eb at h
 refine⟨?_,?_,?_,?_,?_⟩<;>simp[World.cell?,h]
theorem Eb.free {w:World}{g:Nat}{vf vs vp vq:Value}{n:Bool}(h:Eb w g vf vs vp vq n)(i:Nat):w.frozen? ⟨g,i,none⟩=false:=by
 unfold Eb at h
 simp only[World.frozen?,h];simp
theorem Eb.kp {w w':World}{g:Nat}{vf vs vp vq:Value}{n:Bool}(h:Eb w g vf vs vp vq n){S:Nat→Prop}(hk:Kp S w w')(hn:¬ S g):Eb w' g vf vs vp vq n:=by
 unfold Eb at *
 rw[hk.block g (Array.getElem?_eq_some_iff.1 h).1 hn];exact h
theorem Eb.below {w w':World}{g:Nat}{vf vs vp vq:Value}{n:Bool}(h:Eb w g vf vs vp vq n)(hb:Below w.heap.size w w'):Eb w' g vf vs vp vq n:=h.kp (S:=fun _=>False) (Kp.of_below hb) (fun h=>h)
theorem Eb.set01 {w:World}{g:Nat}{vf vs vp vq:Value}{n:Bool}(h:Eb w g vf vs vp vq n)(a b:Value):Eb ((w.setCell ⟨g,0,none⟩ a).setCell ⟨g,1,none⟩ b) g a b vp vq n:=by
 unfold Eb at *
 simp only[World.setCell,Array.getElem?_modify,h];simp
theorem Eb.set23 {w:World}{g:Nat}{vf vs vp vq:Value}{n:Bool}(h:Eb w g vf vs vp vq n)(a b:Value):Eb ((w.setCell ⟨g,2,none⟩ a).setCell ⟨g,3,none⟩ b) g vf vs a b n:=by
 unfold Eb at *
 simp only[World.setCell,Array.getElem?_modify,h];simp
theorem Eb.set4 {w:World}{g:Nat}{vf vs vp vq:Value}{n:Bool}(h:Eb w g vf vs vp vq n)(m:Bool):Eb (w.setCell ⟨g,4,none⟩ (.bool m)) g vf vs vp vq m:=by
 unfold Eb at *
 simp only[World.setCell,Array.getElem?_modify,h];simp
theorem Eb.apart {w:World}{g B:Nat}{vf vs vp vq v:Value}{n:Bool}{xs:List Nat}(h:Eb w g vf vs vp vq n)(ho:Gb.Own .u64 120 B w v xs):¬ At v g:=by
 intro hg;obtain⟨_,h2⟩:=ho;rcases h2 with⟨rfl,_⟩|⟨k,cap,cur,rfl,_,hh,_⟩
 · exact at_nil _ _ _ hg
 · rw[fe]at hg
   subst hg;unfold Eb at h
   rw[h]at hh;injection hh with hh
   injection hh with e1 e2 e3
   exact absurd e2 (by decide)
structure St4 (B:Nat) (w:World) (vf vs vp vq:Value) (F S P Q:Nat):Prop where
 f:Gb.Own .u64 120 B w vf (ae F)
 s:Gb.Own .u64 120 B w vs (ae S)
 p:Gb.Own .u64 120 B w vp (ae P)
 q:Gb.Own .u64 120 B w vq (ae Q)
 fs:Apt vf vs
 fp:Apt vf vp
 fq:Apt vf vq
 sp:Apt vs vp
 sq:Apt vs vq
 pq:Apt vp vq
theorem St4.below {B:Nat}{w w':World}{vf vs vp vq:Value}{F S P Q:Nat}(h:St4 B w vf vs vp vq F S P Q)(hb:Below w.heap.size w w'):St4 B w' vf vs vp vq F S P Q :=
 ⟨h.f.below hb,h.s.below hb,h.p.below hb,h.q.below hb,h.fs,h.fp,h.fq,h.sp,h.sq,h.pq⟩
theorem St4.kp {B:Nat}{w w':World}{vf vs vp vq:Value}{F S P Q:Nat}(h:St4 B w vf vs vp vq F S P Q){Z:Nat→Prop}(hk:Kp Z w w')(hn:∀ g,(At vf g∨At vs g∨At vp g∨At vq g)→¬ Z g):St4 B w' vf vs vp vq F S P Q :=
 ⟨h.f.kp hk (fun g hg=>hn g (Or.inl hg)),h.s.kp hk (fun g hg=>hn g (Or.inr (Or.inl hg))),h.p.kp hk (fun g hg=>hn g (Or.inr (Or.inr (Or.inl hg)))),h.q.kp hk (fun g hg=>hn g (Or.inr (Or.inr (Or.inr hg)))),h.fs,h.fp,h.fq,h.sp,h.sq,h.pq⟩
theorem gB {w:World}(g i:Nat)(u:Value):Kp (fun k=>k=g) w (w.setCell ⟨g,i,none⟩ u):=(Kp.refl (fun k=>k=g) w).set (p:=⟨g,i,none⟩) (fun _=>rfl) u
def EuSt (B:Nat) (w:World) (g F S P Q:Nat) (n:Bool):Prop:=∃ vf vs vp vq,Eb w g vf vs vp vq n∧B≤g∧St4 B w vf vs vp vq F S P Q
theorem eP {k:IntKind}{T:TypeId}{w0 w:World}{v:Value}{xs:List Nat}(h:Gb.Own k T w0.heap.size w v xs)(u:Value)(hu:∀ g,At u g→g<w0.heap.size):Apt v u:=Apt.fresh h.fresh hu
theorem z0p (B g F S P Q:Nat)(n:Bool)(hS0:S≠0)(hlF:(ae F).length≤80000)(hlP:(ae P).length≤80000)(hlQ:(ae Q).length≤80000)(hlN:(ae (P+F / S*Q)).length≤80000)(w:World)(h:EuSt B w g F S P Q n)(hB:B≤w.heap.size) :
 Calls Tryz.prog 192 #[.pointer (some ⟨g,0,none⟩)] w fun e w'=>e=.returned (.tuple #[])∧Hid (EuSt B w' g S (F%S) Q (P+F / S*Q) (!n))∧Below B w w':=by
 obtain⟨vf,vs,vp,vq,hE,hBg,h4⟩:=h;obtain⟨as_,cs_,rfl⟩:=aW h4.s.rd;obtain⟨aq,cq,rfl⟩:=aW h4.q.rd;have HDv:=hid (pF vf (.slice as_ (ae S).length cs_) F S hS0 (by omega) w.drew h4.f.rd h4.s.rd);obtain⟨D,hD⟩:∃ D,D=F / S:=⟨_,rfl⟩;obtain⟨R,hR⟩:∃ R,R=F%S:=⟨_,rfl⟩;rw[← hD,← hR]at HDv;rw[← hD]at hlN;rw[← hD,← hR]
 have hlD:(ae D).length≤80000:=by
  rw[hD];exact Nat.le_trans (aP (Nat.div_le_self F S)) hlF
 have hlX:(ae (D*Q)).length≤80000:=Nat.le_trans (aP (Nat.le_add_left _ _)) hlN;obtain ⟨HE,H4,HB,HBg⟩:=aG hE h4 hB hBg;obtain⟨c0,c1,c2,c3,c4⟩:=hE.cells;clear hD hR hE h4 hB hBg hS0 hlF;go_enter Tryz.func192,Tryz.ntmps192
 go_upto_region 0 with fail
 go_cut [2,3] (fun v2 v3 wx=>∃ qv rv:Value,v2=qv∧v3=rv∧Hid (Gb.Own .u64 120 w.heap.size wx qv (ae D))∧Hid (Gb.Own .u64 120 w.heap.size wx rv (ae R))∧Hid (Below w.heap.size w wx))
 case first =>
  go_region_with (go_at_call 222;go_must (refine HDv.out.mono ?_;rintro e w1 ⟨qv,rv,rfl,hq,hr,hb1⟩))
  all_goals
   have HQ:=hid (show Gb.Own .u64 120 w.heap.size w1 qv (ae D) from hq);have HR:=hid (show Gb.Own .u64 120 w.heap.size w1 rv (ae R) from hr);have HB1:=hid (show Below w.heap.size w w1 from(Below.refl _ w).drew.trans hb1);clear hq hr hb1;go_wp2_with fail
   go_meet
   exact⟨qv,rv,rfl,rfl,HQ,HR,HB1⟩
 case rest =>
  obtain⟨_,_,rfl,rfl,hq,hr,hb⟩:=hcut;obtain⟨ar,cr,rfl⟩:=aW hr.out.rd;clear c0 c1 c2 c3 c4;have hE1:=HE.out.below hb.out;obtain⟨c0,c1,c2,c3,c4⟩:=hE1.cells;have f0:=hE1.free 0;have f1:=hE1.free 1;have HE2:=hid (hE1.set01 (.slice as_ (ae S).length cs_) (.slice ar (ae R).length cr));have K2:=hid (show Kp (fun k=>k=g) wc ((wc.setCell ⟨g,0,none⟩ (.slice as_ (ae S).length cs_)).setCell ⟨g,1,none⟩ (.slice ar (ae R).length cr)) from(gB g 0 (.slice as_ (ae S).length cs_)).trans (gB g 1 (.slice ar (ae R).length cr)) (fun _ _ h=>h));have HE1:=hid hE1;clear hE1;go_upto_region 2 with fail
  clear c0 c1 c2 c3 c4 f0 f1;generalize (wc.setCell ⟨g,0,none⟩ (.slice as_ (ae S).length cs_)).setCell ⟨g,1,none⟩ (.slice ar (ae R).length cr)=w2 at *;have L:=H4.out;have hBw:=HB.out;have hBg:=HBg.out;have Lc:=L.below hb.out;have R1:=hr.out.mono hBw;have D1:=hq.out.mono hBw;have nvs:¬ At (.slice as_ (ae S).length cs_) g:=HE.out.apart L.s;have nvp:¬ At vp g:=HE.out.apart L.p;have nvq:¬ At (.slice aq (ae Q).length cq) g:=HE.out.apart L.q;have nu3:¬ At (.slice ar (ae R).length cr) g:=HE1.out.apart R1;have nu2:¬ At u2 g:=HE1.out.apart D1;have S2:=Lc.s.kp K2.out (fun k hk e=>nvs (e▸hk));have P2:=Lc.p.kp K2.out (fun k hk e=>nvp (e▸hk));have Q2:=Lc.q.kp K2.out (fun k hk e=>nvq (e▸hk));have R2:=R1.kp K2.out (fun k hk e=>nu3 (e▸hk));have D2:=D1.kp K2.out (fun k hk e=>nu2 (e▸hk));have A1:Apt (.slice ar (ae R).length cr) (.slice as_ (ae S).length cs_):=eP hr.out (.slice as_ (ae S).length cs_) (fun k hk=>(L.s.at hk).2);have A2:Apt (.slice ar (ae R).length cr) vp:=eP hr.out vp (fun k hk=>(L.p.at hk).2);have A3:Apt (.slice ar (ae R).length cr) (.slice aq (ae Q).length cq):=eP hr.out (.slice aq (ae Q).length cq) (fun k hk=>(L.q.at hk).2);have b1:B≤wc.heap.size:=Nat.le_trans hBw hb.out.size;have b2:B≤w2.heap.size:=Nat.le_trans b1 K2.out.size;have HM:=hid (gZ u2 (.slice aq (ae Q).length cq) D Q (by omega) (by omega) w2 D2.rd Q2.rd);have HBl2:=hid (show Below B w w2 from(hb.out.mono hBw).trans (K2.out.below b1 (fun k e=>e▸hBg)));obtain ⟨HS2,HP2,HQ2,HR2,HA1,HA2,HA3,HL,Hb2⟩:=jA S2 P2 Q2 R2 A1 A2 A3 L b2;clear Lc L R1 D1 nvs nvp nvq nu3 nu2 S2 P2 Q2 R2 D2 A1 A2 A3 b1 b2 hBw hBg;obtain⟨c0,c1,c2,c3,c4⟩:=HE2.out.cells;go_wp2_with fail
  refine HM.out.mono ?_;rintro e w3 ⟨pv,rfl,hpv,hb3⟩;clear c0 c1 c2 c3 c4;have E3:=HE2.out.below hb3;have S3:=HS2.out.below hb3;have P3:=HP2.out.below hb3;have Q3:=HQ2.out.below hb3;have R3:=HR2.out.below hb3;have X3:=hpv.mono Hb2.out;have A4:Apt pv vp:=eP hpv vp (fun k hk=>(HP2.out.at hk).2);have A5:Apt pv (.slice as_ (ae S).length cs_):=eP hpv (.slice as_ (ae S).length cs_) (fun k hk=>(HS2.out.at hk).2);have A6:Apt pv (.slice aq (ae Q).length cq):=eP hpv (.slice aq (ae Q).length cq) (fun k hk=>(HQ2.out.at hk).2);have A7:Apt pv (.slice ar (ae R).length cr):=eP hpv (.slice ar (ae R).length cr) (fun k hk=>(HR2.out.at hk).2);have b3:B≤w3.heap.size:=Nat.le_trans Hb2.out hb3.size
  have HBL:=hid (jh B vp pv (ae P) (ae (D*Q)) 1 1 0 0 (P+D*Q) 0 w3 (by decide) (by decide) (by decide) (by decide) (by decide) (by decide) (by decide) (by decide)
   (aT _) (aT _) (by omega) (by omega) (by rw[az,az,Int.one_mul,Int.one_mul,Int.natCast_add]) (by rw[Int.zero_mul,Int.zero_mul];rfl) P3 X3 A4.symm b3)
  have HBl3:=hid (show Below B w w3 from HBl2.out.trans (hb3.mono Hb2.out));obtain⟨c0,c1,c2,c3,c4⟩:=E3.cells;obtain ⟨HE3,HS3,HP3,HQ3,HR3,HX3,HA4,HA5,HA6,HA7,Hb3⟩:=iC E3 S3 P3 Q3 R3 X3 A4 A5 A6 A7 b3;clear E3 S3 P3 Q3 R3 X3 A4 A5 A6 A7 b3 hpv hb3;go_wp2_with fail
  refine HBL.out.mono ?_;rintro e w4 ⟨n1,n2,rfl,h41,_,_,hno1,_,hk4⟩;obtain⟨an,cn,rfl⟩:=aW h41.rd;clear c0 c1 c2 c3 c4;have L:=HL.out;have hBg:=HBg.out;have E4:=HE3.out.kp hk4 (fun h=>h.elim (HE3.out.apart HP3.out) (HE3.out.apart HX3.out));have S4:=HS3.out.kp hk4 (fun k hk h=>h.elim (fun h=>L.sp k hk h) (fun h=>HA5.out k h hk));have Q4:=HQ3.out.kp hk4 (fun k hk h=>h.elim (fun h=>L.pq k h hk) (fun h=>HA6.out k h hk));have R4:=HR3.out.kp hk4 (fun k hk h=>h.elim (fun h=>HA2.out k hk h) (fun h=>HA7.out k h hk));have T1:Apt (.slice an (ae (P+D*Q)).length cn) (.slice as_ (ae S).length cs_):=L.sp.symm.newOr hno1 (fun k hk=>(HS3.out.at hk).2);have T2:Apt (.slice an (ae (P+D*Q)).length cn) (.slice aq (ae Q).length cq):=L.pq.newOr hno1 (fun k hk=>(HQ3.out.at hk).2);have T3:Apt (.slice an (ae (P+D*Q)).length cn) (.slice ar (ae R).length cr):=HA2.out.symm.newOr hno1 (fun k hk=>(HR3.out.at hk).2);have HBl4:=hid (show Below B w w4 from HBl3.out.trans (hk4.below Hb3.out (fun k h=>h.elim (fun h=>(HP3.out.at h).1) (fun h=>(HX3.out.at h).1))));have b4:B≤w4.heap.size:=Nat.le_trans Hb3.out hk4.size;obtain⟨c0,c1,c2,c3,c4⟩:=E4.cells;have f2:=E4.free 2;have f3:=E4.free 3;have HE5:=hid (E4.set23 (.slice aq (ae Q).length cq) (.slice an (ae (P+D*Q)).length cn));have K5:=hid (show Kp (fun k=>k=g) w4 ((w4.setCell ⟨g,2,none⟩ (.slice aq (ae Q).length cq)).setCell ⟨g,3,none⟩ (.slice an (ae (P+D*Q)).length cn)) from(gB g 2 (.slice aq (ae Q).length cq)).trans (gB g 3 (.slice an (ae (P+D*Q)).length cn)) (fun _ _ h=>h));obtain ⟨HE4,HS4,HQ4,HR4,HN4,HT1,HT2,HT3,Hb4⟩:=jA E4 S4 Q4 R4 h41 T1 T2 T3 b4;clear L hBg E4 S4 Q4 R4 T1 T2 T3 b4 h41 hno1 hk4;go_upto_region 5 with fail
  clear c0 c1 c2 c3 c4 f2 f3;generalize (w4.setCell ⟨g,2,none⟩ (.slice aq (ae Q).length cq)).setCell ⟨g,3,none⟩ (.slice an (ae (P+D*Q)).length cn)=w5 at *;obtain⟨c0,c1,c2,c3,c4⟩:=HE5.out.cells;have f4:=HE5.out.free 4;go_wp2;go_end0
  have L:=HL.out;have K6:Kp (fun k=>k=g) w4 (w5.setCell ⟨g,4,none⟩ (.bool (!n))):=K5.out.trans (gB g 4 (.bool (!n))) (fun _ _ h=>h);refine⟨rfl,⟨(.slice as_ (ae S).length cs_),(.slice ar (ae R).length cr),(.slice aq (ae Q).length cq),(.slice an (ae (P+D*Q)).length cn),HE5.out.set4 (!n),HBg.out,?_⟩,HBl4.out.trans (K6.below Hb4.out (fun k e=>e▸HBg.out))⟩
  exact⟨HS4.out.kp K6 (fun k hk e=>HE4.out.apart HS4.out (e▸hk)),HR4.out.kp K6 (fun k hk e=>HE4.out.apart HR4.out (e▸hk)),HQ4.out.kp K6 (fun k hk e=>HE4.out.apart HQ4.out (e▸hk)),HN4.out.kp K6 (fun k hk e=>HE4.out.apart HN4.out (e▸hk)),
   HA1.out.symm,L.sq,HT1.out.symm,HA3.out,HT3.out.symm,HT2.out.symm⟩
end Go.Proofs.YtodcdibanokjjaaGreatDoor
