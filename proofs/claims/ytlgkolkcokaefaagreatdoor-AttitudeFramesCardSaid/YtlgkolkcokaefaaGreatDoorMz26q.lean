/- texts -/
import Derived.Lib.CutLaws
import Derived.Test.YtlgkolkcokaefaaGreatDoorMz25q
import Derived.Deep.DeepCutAuto
open Go.Proofs.Tryz
namespace Go.Proofs.YtlgkolkcokaefaaGreatDoor
open Go.RowKit Go.Gb
theorem index_hit (c:UInt8)(a b:List UInt8)(h:c∉a):Lib.index (a++c :: b) [c]=a.length:=by
 refine Lib.index_first (by simp) ?_ ?_
 · simp[Lib.occAt,List.isPrefixOf]
 · intro j hj
   unfold Lib.occAt
   rw[List.drop_append_of_le_length (by omega)]
   cases hd:a.drop j with
   | nil=>exact absurd (List.drop_eq_nil_iff.1 hd) (by omega)
   | cons x t =>
     have hx:x∈a:=List.mem_of_mem_drop (hd▸List.mem_cons_self);have h1:¬ c=x:=by rintro rfl;exact h hx
     simp[List.isPrefixOf,h1]
theorem oL (c:UInt8):∀ l:List UInt8,c∉l→Lib.index l [c] = -1
 | [],_=>rfl
 | x :: l,h=>by
   have h1:¬ c=x:=by rintro rfl;exact h List.mem_cons_self
   have h2:=oL c l (fun hm=>h (List.mem_cons_of_mem _ hm));unfold Lib.index
   rw[h2];simp[List.isPrefixOf,h1]
theorem z0L (c:UInt8)(a b:List UInt8)(h:c∉a):Lib.cut (a++c :: b) [c]=(a,b,true):=by
 unfold Lib.cut
 rw[index_hit c a b h,if_pos (by omega)];simp
theorem wR (c:UInt8)(l:List UInt8)(h:c∉l):Lib.cut l [c]=(l,[],false):=by
 unfold Lib.cut
 rw[oL c l h];rfl
theorem nG (c:UInt8)(l:List UInt8):(c∉l∧Lib.cut l [c]=(l,[],false))∨∃ a b,c∉a∧l=a++c :: b∧Lib.cut l [c]=(a,b,true):=by
 by_cases h:c∈l
 · obtain⟨a,b,e,hn⟩:=List.eq_append_cons_of_mem h
   exact Or.inr ⟨a,b,hn,e,by rw[e];exact z0L c a b hn⟩
 · exact Or.inl ⟨h,wR c l h⟩
theorem z0I (c:UInt8)(hc:isD c=false)(n:Nat):c∉Lib.decDigits n:=by
 intro h;have:=List.all_eq_true.1 (iP n) c h;rw[hc]at this;cases this
theorem z1m (c:UInt8)(hc:isD c=false)(h45:c≠45)(z:Int):c∉(Sz z).data.toList:=by
 rcases bN z with⟨n,hn,rfl⟩|rfl|⟨n,hn,rfl⟩
 · rw[iV hn]
   intro h;rcases List.mem_cons.1 h with h|h
   · exact h45 h
   · exact z0I c hc n h
 · rw[show Sz 0=Sn 0 from dJ 0,bS];exact z0I c hc 0
 · rw[dJ,bS];exact z0I c hc n
def Sq (q:Rat):ByteArray:=if q.den=1 then Sz q.num else ⟨((Sz q.num).data.toList++47 :: Lib.decDigits q.den).toArray⟩
theorem iW {q:Rat}(h:q.den=1):Sq q=Sz q.num:=by unfold Sq;rw[if_pos h]
theorem pG {q:Rat}(h:q.den≠1):Sq q=⟨((Sz q.num).data.toList++47 :: Lib.decDigits q.den).toArray⟩:=by unfold Sq;rw[if_neg h]
theorem gL {q:Rat}(h:q.den≠1):(Sq q).data.toList=(Sz q.num).data.toList++47 :: Lib.decDigits q.den:=by rw[pG h]
theorem z1t (z:Int):Sq (Rat.ofInt z)=Sz z:=iW rfl
theorem wS {q:Rat}(h:q.den≠1):Lib.cut (Sq q).data.toList [47]=((Sz q.num).data.toList,Lib.decDigits q.den,true):=by
 rw[gL h];exact z0L 47 _ _ (z1m 47 (by decide) (by decide) _)
theorem z0K (z:Int):Lib.cut (Sz z).data.toList [47]=((Sz z).data.toList,[],false):=wR 47 _ (z1m 47 (by decide) (by decide) _)
def vldP (n d:List UInt8):Bool:=vldZ n&&vldZ d && !(d==[49])&&decide (1≤zval d)&&(Nat.gcd (zval n).natAbs (zval d).natAbs==1)
def vldQ (l:List UInt8):Bool:=if (Lib.cut l [47]).2.2 then vldP (Lib.cut l [47]).1 (Lib.cut l [47]).2.1 else vldZ l
def qval (l:List UInt8):Rat:=if (Lib.cut l [47]).2.2 then mkRat (zval (Lib.cut l [47]).1) (zval (Lib.cut l [47]).2.1).toNat else Rat.ofInt (zval l)
theorem z2L {l:List UInt8}(h:vldZ l=true):(Sz (zval l)).data.toList=l:=by
 have h1:=zk (a:=⟨l.toArray⟩) (by simpa using h);have h2:=congrArg (fun b:ByteArray=>b.data.toList) h1;simpa using h2.symm
theorem z2o {l:List UInt8}(h:vldZ l=true)(h1:1≤zval l):l=Lib.decDigits (zval l).toNat:=by
 have h2:=z2L h;obtain⟨n,hn⟩:∃ n:Nat,zval l=n:=⟨(zval l).toNat,by omega⟩;rw[hn,dJ,bS]at h2;rw[hn,Int.toNat_natCast,h2]
theorem xS (z:Int)(n:Nat)(hn:n≠0)(hg:Nat.gcd z.natAbs n=1):(mkRat z n).num=z∧(mkRat z n).den=n:=by
 have h:=mr z n hn;rw[hg]at h;simpa using h
theorem z3h {a:ByteArray}(h:vldQ a.data.toList=true):a=Sq (qval a.data.toList):=by
 cases a with
 | mk d =>
   simp only at h ⊢;obtain⟨l,rfl⟩:∃ l:List UInt8,d=l.toArray:=⟨d.toList,rfl⟩;simp only at h ⊢;rcases nG 47 l with⟨_,e⟩|⟨x,y,_,el,e⟩
   · unfold vldQ at h
     unfold qval
     rw[e]at h ⊢;simp only[Bool.false_eq_true,if_false]at h ⊢;rw[z1t];have h2:=zk (a:=⟨l.toArray⟩) (by simpa using h);simpa using h2
   · unfold vldQ at h
     unfold qval
     rw[e]at h ⊢;simp only[if_true]at h ⊢;unfold vldP at h
     simp only[Bool.and_eq_true,decide_eq_true_eq,Bool.not_eq_true',beq_iff_eq]at h;obtain⟨⟨⟨⟨h1,h2⟩,h3⟩,h4⟩,h5⟩:=h;have hy:=z2o h2 h4;have hx:=z2L h1;obtain⟨m,hm⟩:∃ m:Nat,zval y=m:=⟨(zval y).toNat,by omega⟩;rw[hm]at h4 h5 hy ⊢;rw[Int.toNat_natCast]at hy ⊢;rw[Int.natAbs_natCast]at h5;obtain⟨p1,p2⟩:=xS (zval x) m (by omega) h5
     have hm1:m≠1:=by
        intro h6;subst h6;rw[Lib.decDigits_one (by decide)]at hy;rw[hy]at h3;simp at h3
     rw[pG (by rw[p2];exact hm1),p1,p2,hx,← hy,el]
theorem z2M (q:Rat):qval (Sq q).data.toList=q:=by
 unfold qval
 by_cases h:q.den=1
 · rw[iW h,z0K]
   simp only[Bool.false_eq_true,if_false];rw[vK];exact Rat.ext rfl h.symm
 · rw[wS h]
   simp only[if_true];rw[vK,mg,Int.toNat_natCast];exact Rat.mkRat_self q
theorem zq (q:Rat):(Sq q).toList=(Sq q).data.toList:=toList_data _
theorem zo {x y:Rat}(h:x≠y):((Sq x).toList==(Sq y).toList)=false:=by
 rw[beq_eq_false_iff_ne,zq,zq];intro h2;apply h
 rw[← z2M x,← z2M y,h2]
def SmQ (k:Nat) (q:Rat):Prop:=Sm k q.num.natAbs∧Sm k q.den
def FitQ (q:Rat):Prop:=SmQ 900 q
theorem SmQ.mono {k l:Nat}{q:Rat}(h:SmQ k q)(hkl:k≤l):SmQ l q:=⟨h.1.mono hkl,h.2.mono hkl⟩
theorem SmQ.fit {k:Nat}{q:Rat}(h:SmQ k q)(hk:k≤900):FitQ q:=SmQ.mono h hk
theorem SmQ.neg {k:Nat}{q:Rat}(h:SmQ k q):SmQ k (-q):=by
 obtain⟨e1,e2⟩:=z00 q;unfold SmQ
 rw[e1,e2,Int.natAbs_neg];exact h
theorem z4s (z:Int)(n:Nat)(hn:n≠0):(mkRat z n).num.natAbs≤z.natAbs∧(mkRat z n).den≤n:=by
 obtain⟨e1,e2⟩:=mr z n hn;rw[e1,e2];exact⟨Int.natAbs_ediv_le_natAbs _ _,Nat.div_le_self _ _⟩
theorem vO {k:Nat}{z:Int}{n:Nat}(hn:n≠0)(h1:Sm k z.natAbs)(h2:Sm k n):SmQ k (mkRat z n):=by
 obtain⟨e1,e2⟩:=z4s z n hn;exact⟨h1.le e1,h2.le e2⟩
theorem iF (x y:Rat):x.den*y.den≠0:=Nat.mul_ne_zero x.den_nz y.den_nz
theorem SmQ.add {k l:Nat}{x y:Rat}(hx:SmQ k x)(hy:SmQ l y):SmQ (k+l+1) (x+y):=by
 rw[jo];refine vO (iF x y) ?_ ((hx.2.mul hy.2).mono (by omega));refine Sm.le ?_ (Int.natAbs_add_le _ _);rw[Int.natAbs_mul,Int.natAbs_mul,Int.natAbs_natCast,Int.natAbs_natCast];exact Sm.add (hx.1.mul hy.2) ((hy.1.mul hx.2).mono (by omega))
theorem SmQ.sub {k l:Nat}{x y:Rat}(hx:SmQ k x)(hy:SmQ l y):SmQ (k+l+1) (x-y):=by
 rw[Rat.sub_eq_add_neg];exact hx.add hy.neg
theorem SmQ.mul {k l:Nat}{x y:Rat}(hx:SmQ k x)(hy:SmQ l y):SmQ (k+l) (x*y):=by
 rw[j5];refine vO (iF x y) ?_ (hx.2.mul hy.2);rw[Int.natAbs_mul];exact hx.1.mul hy.1
theorem SmQ.inv {k:Nat}{x:Rat}(hx:SmQ k x)(h0:x≠0):SmQ k x⁻¹:=by
 have hn:x.num≠0:=fun h=>h0 (Rat.num_eq_zero.1 h);rcases Int.lt_or_gt_of_ne hn with h|h
 · obtain⟨e1,e2⟩:=kG h
   unfold SmQ
   rw[e1,Int.natAbs_neg,Int.natAbs_natCast,show(x⁻¹).den=x.num.natAbs by omega];exact⟨hx.2,hx.1⟩
 · obtain⟨e1,e2⟩:=nk h
   unfold SmQ
   rw[e1,Int.natAbs_natCast,show(x⁻¹).den=x.num.natAbs by omega];exact⟨hx.2,hx.1⟩
theorem SmQ.div {k l:Nat}{x y:Rat}(hx:SmQ k x)(hy:SmQ l y)(h0:y≠0):SmQ (k+l) (x / y):=by
 rw[Rat.div_def];exact hx.mul (hy.inv h0)
theorem iX {z:Int}{k:Nat}(h:(Sz z).size≤k):Sm k z.natAbs:=by
 rcases bN z with⟨n,hn,rfl⟩|rfl|⟨n,hn,rfl⟩
 · rw[Int.natAbs_neg,Int.natAbs_natCast]
   rw[iV hn]at h
   have h1:=Sm.of (a:=Sn n) (k:=k) (dU n) (by
    have h2:(Sn n).size=(Lib.decDigits n).length:=by rw[← aG,bS]
    have h3:(⟨(45 :: Lib.decDigits n).toArray⟩:ByteArray).size=(Lib.decDigits n).length+1:=by simp[ByteArray.size]
    omega)
   rwa [bO]at h1
 · rw[show Sz 0=Sn 0 from dJ 0]at h
   have h1:=Sm.of (a:=Sn 0) (k:=k) (dU 0) h;rwa [bO]at h1
 · rw[Int.natAbs_natCast]
   rw[dJ]at h;have h1:=Sm.of (a:=Sn n) (k:=k) (dU n) h;rwa [bO]at h1
theorem zA {q:Rat}{k:Nat}(h:(Sq q).size≤k)(hk:0<k):SmQ k q:=by
 by_cases h1:q.den=1
 · rw[iW h1]at h
   refine⟨iX h,?_⟩;rw[h1];exact Nat.one_lt_pow (by omega) (by decide)
 · have h2:(Sq q).size=(Sz q.num).size+1+(Sn q.den).size:=by
    rw[← aG,gL h1,← aG,← aG,bS];simp;omega
   refine⟨iX (by omega),?_⟩;have h3:=Sm.of (a:=Sn q.den) (k:=k) (dU _) (by omega);rwa [bO]at h3
theorem FitQ.num {q:Rat}(h:FitQ q):FitZ q.num:=by unfold FitZ Fit;exact Sm.mono (k:=900) h.1 (by decide)
theorem FitQ.den {q:Rat}(h:FitQ q):Fit q.den:=by unfold Fit;exact Sm.mono (k:=900) h.2 (by decide)
theorem jK {z:Int}{k:Nat}(h:Sm k z.natAbs)(hk:0<k):(Sz z).size≤k+1:=by
 rcases bN z with⟨n,hn,rfl⟩|rfl|⟨n,hn,rfl⟩
 · rw[Int.natAbs_neg,Int.natAbs_natCast]at h
   have h1:=gZ h hk;have h2:(Sn n).size=(Lib.decDigits n).length:=by rw[← aG,bS]
   have h3:(Sz (-(n:Int))).size=(Lib.decDigits n).length+1:=by rw[iV hn];simp[ByteArray.size]
   omega
 · have h1:=gZ h hk
   rw[show Sz 0=Sn 0 from dJ 0];simp at h1
   omega
 · rw[Int.natAbs_natCast]at h
   have h1:=gZ h hk;rw[dJ];omega
theorem zn {q:Rat}{k:Nat}(h:SmQ k q)(hk:0<k):(Sq q).size≤k+1+1+k:=by
 have h1:=jK h.1 hk;have h2:=gZ h.2 hk;by_cases h3:q.den=1
 · rw[iW h3];omega
 · have h4:(Sq q).size=(Sz q.num).size+1+(Sn q.den).size:=by
    rw[← aG,gL h3,← aG,← aG,bS];simp;omega
   omega
theorem oG {n:Nat}(h:n<10^18):Lib.parseIntB 64 (Lib.decDigits n)=.ok (n:Int):=by
 have hl:(Lib.decDigits n).length≤18:=qB 18 n h (by decide);have hp:=mV (Lib.decDigits n) (mO n) (by omega);rw[fG]at hp;obtain⟨c,t,hd,hc⟩:=jB (n:=n);have hD:isD c=true:=List.all_eq_true.1 (iP n) c (by rw[hd];exact List.mem_cons_self);have hD':=(eT c).1 hD;rw[hd]at hp ⊢;unfold Lib.parseIntB
 have h1:¬ c.toNat=43:=by omega
 have h2:¬ c.toNat=45:=by omega
 simp only[h1,h2,or_self,if_false,hp]
 have h3:¬ (2^(64-1)≤n):=by
  have:(10:Nat)^18<2^(64-1):=by decide
  omega
 simp[h3]
theorem xR {n:Nat}(h:n<10^18):Lib.parseIntB 64 (45 :: Lib.decDigits n)=.ok (-(n:Int)):=by
 have hl:(Lib.decDigits n).length≤18:=qB 18 n h (by decide);have hp:=mV (Lib.decDigits n) (mO n) (by omega);rw[fG]at hp;unfold Lib.parseIntB
 have e:(45:UInt8).toNat=45:=rfl;simp only[e,or_true,if_true,hp]
 have h3:¬ (2^(64-1)<n):=by
  have:(10:Nat)^18<2^(64-1):=by decide
  omega
 simp[h3]
theorem z1M {z:Int}(h:(Sz z).size≤18):Lib.parseIntB 64 (Sz z).data.toList=.ok z:=by
 have hs:=iX h;rcases bN z with⟨n,hn,rfl⟩|rfl|⟨n,hn,rfl⟩
 · rw[Int.natAbs_neg,Int.natAbs_natCast]at hs
   rw[iV hn];exact xR hs
 · rw[show Sz 0=Sn 0 from dJ 0,bS]
   exact oG (by decide)
 · rw[Int.natAbs_natCast]at hs
   rw[dJ,bS];exact oG hs
theorem z3s (z:Int):(⟨(Lib.itoa z).toArray⟩:ByteArray)=Sz z:=by
 unfold Lib.itoa Sz
 split
 · rfl
 · unfold Sn
   rw[show z.toNat=z.natAbs by omega]
set_option maxRecDepth 100000
set_option maxHeartbeats 20000000
open Go.Lib (hid)
abbrev CV (w:World) (f:Nat) (args:Array Value) (v:Value):Prop:=∀ W,Below w.heap.size w W→Calls Tryz.prog f args W fun e w'=>e=.returned v∧Below W.heap.size W w'
theorem CV.mono {w W:World}{f:Nat}{args:Array Value}{v:Value}(h:CV w f args v)(hb:Below w.heap.size w W):CV W f args v:=fun X hX=>h X (hb.trans (hX.mono hb.size))
theorem CV.at {w:World}{f:Nat}{args:Array Value}{v:Value}(h:CV w f args v):Calls Tryz.prog f args w fun e w'=>e=.returned v∧Below w.heap.size w w':=h w (Below.refl _ _)
theorem hRat (x:ByteArray)(n:Int)(w₀:World)   :
 CV w₀ 77 #[.string x,.int .i64 n] (.string x):=by
 intro w hw;clear hw;go_enter func77,ntmps77
 have HB0:=hid (Below.refl w.heap.size w);go_wp2;exact bodyPost_ret (v:=.string x) (by simp[results,results77,go_sem]) rfl ⟨rfl,HB0.out⟩
theorem hInt (x n:Int)(w₀:World)   :
 CV w₀ 92 #[.int .i64 x,.int .i64 n] (.int .i64 x):=by
 intro w hw;clear hw;go_enter func92,ntmps92
 have HB0:=hid (Below.refl w.heap.size w);go_wp2;exact bodyPost_ret (v:=.int .i64 x) (by simp[results,results92,go_sem]) rfl ⟨rfl,HB0.out⟩
theorem z0c (x y z:ByteArray)(n:Int)(w₀:World)(h1:CV w₀ 85 #[.string x,.string y] (.tuple #[.string z,.int .i64 n]))  :
 CV w₀ 64 #[.string x,.string y] (.string z):=by
 intro w hw;have C1:=hid (h1.mono hw);clear h1 hw;go_enter func64,ntmps64
 have HB0:=hid (Below.refl w.heap.size w);go_wp2_with fail
 with_reducible refine(C1.out _ HB0.out).mono ?_
 rintro e W1 ⟨rfl,hb⟩;have HB1:=hbt HB0 hb;clear hb;go_wp2_with fail
 with_reducible refine(hRat z n _ _ HB1.out).mono ?_
 rintro e W2 ⟨rfl,hb⟩;have HB2:=hbt HB1 hb;clear hb;go_wp2;exact bodyPost_ret (v:=.string z) (by simp[results,results64,go_sem]) rfl ⟨rfl,HB2.out⟩
theorem yh (x y z:ByteArray)(n:Int)(w₀:World)(h1:CV w₀ 84 #[.string x,.string y] (.tuple #[.string z,.int .i64 n]))  :
 CV w₀ 62 #[.string x,.string y] (.string z):=by
 intro w hw;have C1:=hid (h1.mono hw);clear h1 hw;go_enter func62,ntmps62
 have HB0:=hid (Below.refl w.heap.size w);go_wp2_with fail
 with_reducible refine(C1.out _ HB0.out).mono ?_
 rintro e W1 ⟨rfl,hb⟩;have HB1:=hbt HB0 hb;clear hb;go_wp2_with fail
 with_reducible refine(hRat z n _ _ HB1.out).mono ?_
 rintro e W2 ⟨rfl,hb⟩;have HB2:=hbt HB1 hb;clear hb;go_wp2;exact bodyPost_ret (v:=.string z) (by simp[results,results62,go_sem]) rfl ⟨rfl,HB2.out⟩
theorem xZ (x y z:ByteArray)(n:Int)(w₀:World)(h1:CV w₀ 78 #[.string x,.string y] (.tuple #[.string z,.int .i64 n]))  :
 CV w₀ 58 #[.string x,.string y] (.string z):=by
 intro w hw;have C1:=hid (h1.mono hw);clear h1 hw;go_enter func58,ntmps58
 have HB0:=hid (Below.refl w.heap.size w);go_wp2_with fail
 with_reducible refine(C1.out _ HB0.out).mono ?_
 rintro e W1 ⟨rfl,hb⟩;have HB1:=hbt HB0 hb;clear hb;go_wp2_with fail
 with_reducible refine(hRat z n _ _ HB1.out).mono ?_
 rintro e W2 ⟨rfl,hb⟩;have HB2:=hbt HB1 hb;clear hb;go_wp2;exact bodyPost_ret (v:=.string z) (by simp[results,results58,go_sem]) rfl ⟨rfl,HB2.out⟩
theorem z0d (x y z:ByteArray)(n:Int)(w₀:World)(h1:CV w₀ 94 #[.string x,.string y] (.tuple #[.string z,.int .i64 n]))  :
 CV w₀ 76 #[.string x,.string y] (.string z):=by
 intro w hw;have C1:=hid (h1.mono hw);clear h1 hw;go_enter func76,ntmps76
 have HB0:=hid (Below.refl w.heap.size w);go_wp2_with fail
 with_reducible refine(C1.out _ HB0.out).mono ?_
 rintro e W1 ⟨rfl,hb⟩;have HB1:=hbt HB0 hb;clear hb;go_wp2_with fail
 with_reducible refine(hRat z n _ _ HB1.out).mono ?_
 rintro e W2 ⟨rfl,hb⟩;have HB2:=hbt HB1 hb;clear hb;go_wp2;exact bodyPost_ret (v:=.string z) (by simp[results,results76,go_sem]) rfl ⟨rfl,HB2.out⟩
theorem yg (x y:ByteArray)(c n:Int)(w₀:World)(h1:CV w₀ 93 #[.string x,.string y] (.tuple #[.int .i64 c,.int .i64 n]))  :
 CV w₀ 75 #[.string x,.string y] (.int .i64 c):=by
 intro w hw;have C1:=hid (h1.mono hw);clear h1 hw;go_enter func75,ntmps75
 have HB0:=hid (Below.refl w.heap.size w);go_wp2_with fail
 with_reducible refine(C1.out _ HB0.out).mono ?_
 rintro e W1 ⟨rfl,hb⟩;have HB1:=hbt HB0 hb;clear hb;go_wp2_with fail
 with_reducible refine(hInt c n _ _ HB1.out).mono ?_
 rintro e W2 ⟨rfl,hb⟩;have HB2:=hbt HB1 hb;clear hb;go_wp2;exact bodyPost_ret (v:=.int .i64 c) (by simp[results,results75,go_sem]) rfl ⟨rfl,HB2.out⟩
theorem z1U (x z:ByteArray)(w₀:World)(h1:CV w₀ 62 #[.string ⟨#[48]⟩,.string x] (.string z))  :
 CV w₀ 34 #[.string x] (.string z):=by
 intro w hw;have C1:=hid (h1.mono hw);clear h1 hw;go_enter func34,ntmps34
 have HB0:=hid (Below.refl w.heap.size w);go_wp2_with fail
 with_reducible refine(C1.out _ HB0.out).mono ?_
 rintro e W1 ⟨rfl,hb⟩;have HB1:=hbt HB0 hb;clear hb;go_wp2;exact bodyPost_ret (v:=.string z) (by simp[results,results34,go_sem]) rfl ⟨rfl,HB1.out⟩
theorem hread (x y z:ByteArray)(w₀:World)   :
 CV w₀ 37 #[.agg #[.string x,.string y,.string z]] (.agg #[.string x,.string y,.string z]):=by
 intro w hw;clear hw;go_enter func37,ntmps37
 go_upto_region 1 with fail
 refine au w [(#[.string x,.string y,.string z],29),(#[.string ⟨#[]⟩,.string ⟨#[]⟩,.string ⟨#[]⟩],65)] rfl ?_;rintro W0 ⟨k1,k2,hb⟩;have HB0:=hid (show Below w.heap.size w W0 from hb);have K1:=hid k1;have K2:=hid k2;clear k1 k2 hb;obtain ⟨dK10,dK11,dK12⟩:=aJ K1.out rfl rfl rfl;obtain ⟨dK20,dK21,dK22⟩:=aJ K2.out rfl rfl rfl;obtain ⟨fK20,fK21,fK22⟩:=bz K2.out;go_wp2;exact bodyPost_ret (v:=.agg #[.string x,.string y,.string z]) (by simp[results,results37,go_sem,dK20,dK21,dK22]) rfl ⟨rfl,(ax (l:=[.string x,.string y,.string z]) (i:=0) (by omega) HB0.out)⟩
theorem nu (x y z:ByteArray)(w₀:World)   :
 CV w₀ 31 #[.agg #[.string x,.string y,.string z]] (.agg #[.string x,.string y,.string z]):=by
 intro w hw;clear hw;go_enter func31,ntmps31
 go_upto_region 1 with fail
 refine au w [(#[.string x,.string y,.string z],65),(#[.string ⟨#[]⟩,.string ⟨#[]⟩,.string ⟨#[]⟩],29)] rfl ?_;rintro W0 ⟨k1,k2,hb⟩;have HB0:=hid (show Below w.heap.size w W0 from hb);have K1:=hid k1;have K2:=hid k2;clear k1 k2 hb;obtain ⟨dK10,dK11,dK12⟩:=aJ K1.out rfl rfl rfl;obtain ⟨dK20,dK21,dK22⟩:=aJ K2.out rfl rfl rfl;obtain ⟨fK20,fK21,fK22⟩:=bz K2.out;go_wp2;exact bodyPost_ret (v:=.agg #[.string x,.string y,.string z]) (by simp[results,results31,go_sem,dK20,dK21,dK22]) rfl ⟨rfl,(ax (l:=[.string x,.string y,.string z]) (i:=0) (by omega) HB0.out)⟩
theorem uz (t u wh m c d s:ByteArray)(w₀:World)(h1:CV w₀ 58 #[.string t,.string t] (.string u))(h2:CV w₀ 64 #[.string ⟨#[49]⟩,.string u] (.string wh))(h3:CV w₀ 62 #[.string ⟨#[49]⟩,.string u] (.string m))(h4:CV w₀ 76 #[.string m,.string wh] (.string c))(h5:CV w₀ 58 #[.string ⟨#[50]⟩,.string t] (.string d))(h6:CV w₀ 76 #[.string d,.string wh] (.string s))  :
 CV w₀ 57 #[.string t] (.tuple #[.string c,.string s]):=by
 intro w hw;obtain ⟨C1,C2,C3,C4,C5,C6⟩:=bT (h1.mono hw) (h2.mono hw) (h3.mono hw) (h4.mono hw) (h5.mono hw) (h6.mono hw);clear h1 h2 h3 h4 h5 h6 hw;go_enter func57,ntmps57
 have HB0:=hid (Below.refl w.heap.size w);go_wp2_with fail
 with_reducible refine(C1.out _ HB0.out).mono ?_
 rintro e W1 ⟨rfl,hb⟩;have HB1:=hbt HB0 hb;clear hb;go_wp2_with fail
 with_reducible refine(C2.out _ HB1.out).mono ?_
 rintro e W2 ⟨rfl,hb⟩;have HB2:=hbt HB1 hb;clear hb;go_wp2_with fail
 with_reducible refine(C3.out _ HB2.out).mono ?_
 rintro e W3 ⟨rfl,hb⟩;have HB3:=hbt HB2 hb;clear hb;go_wp2_with fail
 with_reducible refine(C4.out _ HB3.out).mono ?_
 rintro e W4 ⟨rfl,hb⟩;have HB4:=hbt HB3 hb;clear hb;go_wp2_with fail
 with_reducible refine(C5.out _ HB4.out).mono ?_
 rintro e W5 ⟨rfl,hb⟩;have HB5:=hbt HB4 hb;clear hb;go_wp2_with fail
 with_reducible refine(C6.out _ HB5.out).mono ?_
 rintro e W6 ⟨rfl,hb⟩;have HB6:=hbt HB5 hb;clear hb;go_wp2;exact bodyPost_ret (v:=.tuple #[.string c,.string s]) (by simp[results,results57,go_sem]) rfl ⟨rfl,HB6.out⟩
theorem yj (p q c s d t st nst ct nt sd nsd cd:ByteArray)(w₀:World)(h1:CV w₀ 57 #[.string p] (.tuple #[.string c,.string s]))(h2:CV w₀ 57 #[.string q] (.tuple #[.string d,.string t]))(h3:CV w₀ 58 #[.string s,.string t] (.string st))(h4:CV w₀ 34 #[.string st] (.string nst))(h5:CV w₀ 58 #[.string c,.string t] (.string ct))(h6:CV w₀ 34 #[.string t] (.string nt))(h7:CV w₀ 58 #[.string s,.string d] (.string sd))(h8:CV w₀ 34 #[.string sd] (.string nsd))(h9:CV w₀ 58 #[.string c,.string d] (.string cd))  :
 CV w₀ 30 #[.agg #[.string p,.string q]] (.agg #[.string d,.string nst,.string ct,.string ⟨#[48]⟩,.string c,.string s,.string nt,.string nsd,.string cd]):=by
 intro w hw;obtain ⟨C1,C2,C3,C4,C5,C6,C7,C8,C9⟩:=dZ (h1.mono hw) (h2.mono hw) (h3.mono hw) (h4.mono hw) (h5.mono hw) (h6.mono hw) (h7.mono hw) (h8.mono hw) (h9.mono hw);clear h1 h2 h3 h4 h5 h6 h7 h8 h9 hw;go_enter func30,ntmps30
 go_upto_region 1 with fail
 refine au w [(#[.string p,.string q],24),(#[.string ⟨#[]⟩,.string ⟨#[]⟩,.string ⟨#[]⟩,.string ⟨#[]⟩,.string ⟨#[]⟩,.string ⟨#[]⟩,.string ⟨#[]⟩,.string ⟨#[]⟩,.string ⟨#[]⟩],67)] rfl ?_;rintro W0 ⟨k1,k2,hb⟩;have HB0:=hid (show Below w.heap.size w W0 from hb);have K1:=hid k1;have K2:=hid k2;clear k1 k2 hb;have dK10:=K1.out.cell (i:=0) rfl;go_wp2_with fail
 with_reducible refine(C1.out _ HB0.out).mono ?_
 rintro e W1 ⟨rfl,hb⟩;clear dK10;have K1:=hid (K1.out.below hb);have K2:=hid (K2.out.below hb);have HB1:=hbt HB0 hb;clear hb;have dK11:=K1.out.cell (i:=1) rfl;go_wp2_with fail
 with_reducible refine(C2.out _ HB1.out).mono ?_
 rintro e W2 ⟨rfl,hb⟩;clear dK11;have K2:=hid (K2.out.below hb);have HB2:=hbt HB1 hb;clear hb;go_wp2_with fail
 with_reducible refine(C3.out _ HB2.out).mono ?_
 rintro e W3 ⟨rfl,hb⟩;have K2:=hid (K2.out.below hb);have HB3:=hbt HB2 hb;clear hb;go_wp2_with fail
 with_reducible refine(C4.out _ HB3.out).mono ?_
 rintro e W4 ⟨rfl,hb⟩;have K2:=hid (K2.out.below hb);have HB4:=hbt HB3 hb;clear hb;go_wp2_with fail
 with_reducible refine(C5.out _ HB4.out).mono ?_
 rintro e W5 ⟨rfl,hb⟩;have K2:=hid (K2.out.below hb);have HB5:=hbt HB4 hb;clear hb;go_wp2_with fail
 with_reducible refine(C6.out _ HB5.out).mono ?_
 rintro e W6 ⟨rfl,hb⟩;have K2:=hid (K2.out.below hb);have HB6:=hbt HB5 hb;clear hb;go_wp2_with fail
 with_reducible refine(C7.out _ HB6.out).mono ?_
 rintro e W7 ⟨rfl,hb⟩;have K2:=hid (K2.out.below hb);have HB7:=hbt HB6 hb;clear hb;go_wp2_with fail
 with_reducible refine(C8.out _ HB7.out).mono ?_
 rintro e W8 ⟨rfl,hb⟩;have K2:=hid (K2.out.below hb);have HB8:=hbt HB7 hb;clear hb;go_wp2_with fail
 with_reducible refine(C9.out _ HB8.out).mono ?_
 rintro e W9 ⟨rfl,hb⟩;have K2:=hid (K2.out.below hb);have HB9:=hbt HB8 hb;clear hb;obtain ⟨dK20,dK21,dK22,dK23,dK24,dK25,dK26,dK27,dK28⟩:=dR K2.out rfl rfl rfl rfl rfl rfl rfl rfl rfl;obtain ⟨fK20,fK21,fK22,fK23,fK24,fK25,fK26,fK27,fK28⟩:=iE K2.out;go_wp2;exact bodyPost_ret (v:=.agg #[.string d,.string nst,.string ct,.string ⟨#[48]⟩,.string c,.string s,.string nt,.string nsd,.string cd]) (by simp[results,results30,go_sem,dK20,dK21,dK22,dK23,dK24,dK25,dK26,dK27,dK28]) rfl ⟨rfl,(ax (l:=[.string d,.string nst,.string ct,.string ⟨#[48]⟩,.string c,.string s,.string nt,.string nsd,.string cd]) (i:=0) (by omega) HB9.out)⟩
end Go.Proofs.YtlgkolkcokaefaaGreatDoor
set_option maxRecDepth 100000
set_option maxHeartbeats 20000000
open Go.Lib (hid)
namespace Go.Proofs.YtlgkolkcokaefaaGreatDoor
open Go.RowKit Go.Gb
theorem yf (g:Nat)(ka kb kc x y z l m n s r:ByteArray)(w₀:World)(h1:CV w₀ 58 #[.string ka,.string x] (.string l))(h2:CV w₀ 58 #[.string kb,.string y] (.string m))(h3:CV w₀ 64 #[.string l,.string m] (.string s))(h4:CV w₀ 58 #[.string kc,.string z] (.string n))(h5:CV w₀ 64 #[.string s,.string n] (.string r))  (kKX:SBk w₀ g #[.string x,.string y,.string z] 65) :
 CV w₀ 63 #[.agg #[.string ka,.string kb,.string kc],.pointer (some ⟨g,0,none⟩)] (.string r):=by
 intro w hw;obtain ⟨C1,C2,C3,C4,C5,KX⟩:=bT (h1.mono hw) (h2.mono hw) (h3.mono hw) (h4.mono hw) (h5.mono hw) (kKX.below hw);clear h1 h2 h3 h4 h5 kKX hw;go_enter func63,ntmps63
 go_upto_region 1 with fail
 refine au w [(#[.string ka,.string kb,.string kc],65)] rfl ?_;rintro W0 ⟨k1,hb⟩;have HB0:=hid (show Below w.heap.size w W0 from hb);have KX:=hid (KX.out.below HB0.out);have K1:=hid k1;clear k1 hb;go_wp2_with fail
 refine aC (fun a0 a' V=>a'=⟨putL [(4,.pointer (some ⟨w.heap.size,0,none⟩)),(5,.string ka),(6,.pointer (some ⟨g,0,none⟩)),(7,.string x),(8,.string l),(9,.pointer (some ⟨w.heap.size,1,none⟩)),(10,.string kb),(11,.pointer (some ⟨g,1,none⟩)),(12,.string y),(13,.string m),(14,.string s),(15,.pointer (some ⟨w.heap.size,2,none⟩)),(16,.string kc),(17,.pointer (some ⟨g,2,none⟩)),(18,.string z),(19,.string n),(20,.string r),(3,.string r)] a0.tmps,a0.defers⟩∧Below w.heap.size w V) ?_ ?_
 · refine az (by kernel_rfl) 18 0 (fun i=>[4,5,6,7,8,9,10,11,12,13,14,15,16,17,18,19,20,3].getD i 0) (RelR [Rel.val (.pointer (some ⟨w.heap.size,0,none⟩)),Rel.val (.string ka),Rel.val (.pointer (some ⟨g,0,none⟩)),Rel.val (.string x),Rel.val (.string l),Rel.val (.pointer (some ⟨w.heap.size,1,none⟩)),Rel.val (.string kb),Rel.val (.pointer (some ⟨g,1,none⟩)),Rel.val (.string y),Rel.val (.string m),Rel.val (.string s),Rel.val (.pointer (some ⟨w.heap.size,2,none⟩)),Rel.val (.string kc),Rel.val (.pointer (some ⟨g,2,none⟩)),Rel.val (.string z),Rel.val (.string n),Rel.val (.string r),Rel.val (.string r)]) (fun W=>Below W0.heap.size W0 W) (fun _ _=>True) (by kernel_rfl) (by kernel_rfl) (by kernel_rfl) trivial (Below.refl _ _).drew ?_ ?_
   · intro listed a W i hI hD hrd him
     obtain ⟨HI,HD,Hr⟩:=ai hI hD hrd;clear hI hrd hD;have y2:a.tmps[2]? = some (.pointer (some ⟨w.heap.size,0,none⟩)):=HI.out.rest 2 (by decide);have y1:a.tmps[1]? = some (.pointer (some ⟨g,0,none⟩)):=HI.out.rest 1 (by decide);have dK10:=(K1.out.below HI.out.world).cell (i:=0) rfl;have dKX0:=(KX.out.below HI.out.world).cell (i:=0) rfl;have dK11:=(K1.out.below HI.out.world).cell (i:=1) rfl;have dKX1:=(KX.out.below HI.out.world).cell (i:=1) rfl;have dK12:=(K1.out.below HI.out.world).cell (i:=2) rfl;have dKX2:=(KX.out.below HI.out.world).cell (i:=2) rfl;have X0:RV _ listed a 0 4 (.pointer (some ⟨w.heap.size,0,none⟩)):=HI.out.rh;have X2:RV _ listed a 2 6 (.pointer (some ⟨g,0,none⟩)):=HI.out.rh;have X1:RV _ listed a 1 5 (.string ka):=HI.out.rh;have X3:RV _ listed a 3 7 (.string x):=HI.out.rh;have X5:RV _ listed a 5 9 (.pointer (some ⟨w.heap.size,1,none⟩)):=HI.out.rh;have X7:RV _ listed a 7 11 (.pointer (some ⟨g,1,none⟩)):=HI.out.rh;have X6:RV _ listed a 6 10 (.string kb):=HI.out.rh;have X8:RV _ listed a 8 12 (.string y):=HI.out.rh;have X4:RV _ listed a 4 8 (.string l):=HI.out.rh;have X9:RV _ listed a 9 13 (.string m):=HI.out.rh;have X11:RV _ listed a 11 15 (.pointer (some ⟨w.heap.size,2,none⟩)):=HI.out.rh;have X13:RV _ listed a 13 17 (.pointer (some ⟨g,2,none⟩)):=HI.out.rh;have X12:RV _ listed a 12 16 (.string kc):=HI.out.rh;have X14:RV _ listed a 14 18 (.string z):=HI.out.rh;have X10:RV _ listed a 10 14 (.string s):=HI.out.rh;have X15:RV _ listed a 15 19 (.string n):=HI.out.rh;have X16:RV _ listed a 16 20 (.string r):=HI.out.rh
     match i,him,Hr with
     | 0,_,Hi =>
       refine ak rfl fun K' hK=>?_;go_simp;exact hK.out _ _ ⟨HI.out.pv Hi.out rfl,trivial⟩
     | 1,_,Hi =>
       have x0:=X0.g Hi.out (by kernel_rfl);refine ak rfl fun K' hK=>?_;go_simp;exact hK.out _ _ ⟨HI.out.pv Hi.out rfl,trivial⟩
     | 2,_,Hi =>
       refine ak rfl fun K' hK=>?_;go_simp;exact hK.out _ _ ⟨HI.out.pv Hi.out rfl,trivial⟩
     | 3,_,Hi =>
       have x2:=X2.g Hi.out (by kernel_rfl);refine ak rfl fun K' hK=>?_;go_simp;exact hK.out _ _ ⟨HI.out.pv Hi.out rfl,trivial⟩
     | 4,_,Hi =>
       have x1:=X1.g Hi.out (by kernel_rfl);have x3:=X3.g Hi.out (by kernel_rfl);refine ak rfl fun K' hK=>?_;go_simp;with_reducible refine(C1.out _ (HB0.out.trans (HI.out.world.mono HB0.out.size))).mono ?_
       rintro e W' ⟨rfl,hb⟩;exact hK.out _ _ ⟨HI.out.pc Hi.out hb rfl,trivial⟩
     | 5,_,Hi =>
       refine ak rfl fun K' hK=>?_;go_simp;exact hK.out _ _ ⟨HI.out.pv Hi.out rfl,trivial⟩
     | 6,_,Hi =>
       have x5:=X5.g Hi.out (by kernel_rfl);refine ak rfl fun K' hK=>?_;go_simp;exact hK.out _ _ ⟨HI.out.pv Hi.out rfl,trivial⟩
     | 7,_,Hi =>
       refine ak rfl fun K' hK=>?_;go_simp;exact hK.out _ _ ⟨HI.out.pv Hi.out rfl,trivial⟩
     | 8,_,Hi =>
       have x7:=X7.g Hi.out (by kernel_rfl);refine ak rfl fun K' hK=>?_;go_simp;exact hK.out _ _ ⟨HI.out.pv Hi.out rfl,trivial⟩
     | 9,_,Hi =>
       have x6:=X6.g Hi.out (by kernel_rfl);have x8:=X8.g Hi.out (by kernel_rfl);refine ak rfl fun K' hK=>?_;go_simp;with_reducible refine(C2.out _ (HB0.out.trans (HI.out.world.mono HB0.out.size))).mono ?_
       rintro e W' ⟨rfl,hb⟩;exact hK.out _ _ ⟨HI.out.pc Hi.out hb rfl,trivial⟩
     | 10,_,Hi =>
       have x4:=X4.g Hi.out (by kernel_rfl);have x9:=X9.g Hi.out (by kernel_rfl);refine ak rfl fun K' hK=>?_;go_simp;with_reducible refine(C3.out _ (HB0.out.trans (HI.out.world.mono HB0.out.size))).mono ?_
       rintro e W' ⟨rfl,hb⟩;exact hK.out _ _ ⟨HI.out.pc Hi.out hb rfl,trivial⟩
     | 11,_,Hi =>
       refine ak rfl fun K' hK=>?_;go_simp;exact hK.out _ _ ⟨HI.out.pv Hi.out rfl,trivial⟩
     | 12,_,Hi =>
       have x11:=X11.g Hi.out (by kernel_rfl);refine ak rfl fun K' hK=>?_;go_simp;exact hK.out _ _ ⟨HI.out.pv Hi.out rfl,trivial⟩
     | 13,_,Hi =>
       refine ak rfl fun K' hK=>?_;go_simp;exact hK.out _ _ ⟨HI.out.pv Hi.out rfl,trivial⟩
     | 14,_,Hi =>
       have x13:=X13.g Hi.out (by kernel_rfl);refine ak rfl fun K' hK=>?_;go_simp;exact hK.out _ _ ⟨HI.out.pv Hi.out rfl,trivial⟩
     | 15,_,Hi =>
       have x12:=X12.g Hi.out (by kernel_rfl);have x14:=X14.g Hi.out (by kernel_rfl);refine ak rfl fun K' hK=>?_;go_simp;with_reducible refine(C4.out _ (HB0.out.trans (HI.out.world.mono HB0.out.size))).mono ?_
       rintro e W' ⟨rfl,hb⟩;exact hK.out _ _ ⟨HI.out.pc Hi.out hb rfl,trivial⟩
     | 16,_,Hi =>
       have x10:=X10.g Hi.out (by kernel_rfl);have x15:=X15.g Hi.out (by kernel_rfl);refine ak rfl fun K' hK=>?_;go_simp;with_reducible refine(C5.out _ (HB0.out.trans (HI.out.world.mono HB0.out.size))).mono ?_
       rintro e W' ⟨rfl,hb⟩;exact hK.out _ _ ⟨HI.out.pc Hi.out hb rfl,trivial⟩
     | 17,_,Hi =>
       have x16:=X16.g Hi.out (by kernel_rfl);refine ak rfl fun K' hK=>?_;go_simp;exact hK.out _ _ ⟨HI.out.pv Hi.out rfl,trivial⟩
     | n+18,h,_=>exact absurd h (by omega)
   · intro listed a W hI hD hall
     obtain ⟨HBW,HI,HA⟩:=ai hI.world hI hall;clear hI hall;have HBX:=hid (HB0.out.trans (HBW.out.mono HB0.out.size));refine aY ?_;exact⟨rfl,(HI.out.finx ⟨HI.out.sx HA.out 0,HI.out.sx HA.out 1,HI.out.sx HA.out 2,HI.out.sx HA.out 3,HI.out.sx HA.out 4,HI.out.sx HA.out 5,HI.out.sx HA.out 6,HI.out.sx HA.out 7,HI.out.sx HA.out 8,HI.out.sx HA.out 9,HI.out.sx HA.out 10,HI.out.sx HA.out 11,HI.out.sx HA.out 12,HI.out.sx HA.out 13,HI.out.sx HA.out 14,HI.out.sx HA.out 15,HI.out.sx HA.out 16,HI.out.sx HA.out 17,trivial⟩ rfl),HBX.out⟩
 rintro a' W1 ⟨rfl,z0⟩;have HB1:=hid z0;clear z0;simp only[putL,List.setIfInBounds_toArray,List.set_cons_zero,List.set_cons_succ];go_wp2;exact bodyPost_ret (v:=.string r) (by simp[results,results63,go_sem]) rfl ⟨rfl,HB1.out⟩
theorem z0b (x y z r0 r1 r2 ea eb ec fa fb fc ja jb jc:ByteArray)(w₀:World)  (d0:∀ (g:Nat) (W:World),Below w₀.heap.size w₀ W→SBk W g #[.string x,.string y,.string z] 65→CV W 63 #[.agg #[.string ea,.string eb,.string ec],.pointer (some ⟨g,0,none⟩)] (.string r0))(d1:∀ (g:Nat) (W:World),Below w₀.heap.size w₀ W→SBk W g #[.string x,.string y,.string z] 65→CV W 63 #[.agg #[.string fa,.string fb,.string fc],.pointer (some ⟨g,0,none⟩)] (.string r1))(d2:∀ (g:Nat) (W:World),Below w₀.heap.size w₀ W→SBk W g #[.string x,.string y,.string z] 65→CV W 63 #[.agg #[.string ja,.string jb,.string jc],.pointer (some ⟨g,0,none⟩)] (.string r2)) :
 CV w₀ 36 #[.agg #[.string ea,.string eb,.string ec,.string fa,.string fb,.string fc,.string ja,.string jb,.string jc],.agg #[.string x,.string y,.string z]] (.agg #[.string r0,.string r1,.string r2]):=by
 intro w hw;have D0:=hid (fun g W (h:Below w.heap.size w W)=>d0 g W (hw.trans (h.mono hw.size)));have D1:=hid (fun g W (h:Below w.heap.size w W)=>d1 g W (hw.trans (h.mono hw.size)));have D2:=hid (fun g W (h:Below w.heap.size w W)=>d2 g W (hw.trans (h.mono hw.size)));have hmf:∀ (fn:Fn) (first cap:Array Value) (w:World),(Instr.makeFunc fn first cap).run Tryz.prog w=.ok (.func fn first cap) w:=fun _ _ _ _=>rfl;clear d0 d1 d2 hw;go_enter func36,ntmps36
 go_upto_region 1 with fail
 refine au w [(#[.string ea,.string eb,.string ec,.string fa,.string fb,.string fc,.string ja,.string jb,.string jc],67),(#[.string x,.string y,.string z],65),(#[.string ⟨#[]⟩,.string ⟨#[]⟩,.string ⟨#[]⟩],65)] rfl ?_;rintro W0 ⟨k1,k2,k3,hb⟩;have HB0:=hid (show Below w.heap.size w W0 from hb);obtain ⟨K1,K2,K3⟩:=ai k1 k2 k3;clear k1 k2 k3 hb;have E0:=hid (D0.out _ _ HB0.out K2.out);have E1:=hid (D1.out _ _ HB0.out K2.out);have E2:=hid (D2.out _ _ HB0.out K2.out);clear D0 D1 D2;go_wp2_with fail
 refine aC (fun a0 a' V=>a'=⟨putL [(7,.func (.func 63) #[] #[.pointer (some ⟨w.heap.size+1,0,none⟩)]),(8,.pointer (some ⟨w.heap.size,0,none⟩)),(9,.agg #[.string ea,.string eb,.string ec]),(10,.string r0),(11,.func (.func 63) #[] #[.pointer (some ⟨w.heap.size+1,0,none⟩)]),(12,.pointer (some ⟨w.heap.size,3,none⟩)),(13,.agg #[.string fa,.string fb,.string fc]),(14,.string r1),(15,.func (.func 63) #[] #[.pointer (some ⟨w.heap.size+1,0,none⟩)]),(16,.pointer (some ⟨w.heap.size,6,none⟩)),(17,.agg #[.string ja,.string jb,.string jc]),(18,.string r2),(19,.agg #[.string r0,.string r1,.string r2])] a0.tmps,a0.defers⟩∧Below w.heap.size w V∧SBk V (w.heap.size+1+1) #[.string r0,.string r1,.string r2] 65) ?_ ?_
 · refine az (by kernel_rfl) 13 1 (fun i=>[7,8,9,10,11,12,13,14,15,16,17,18,19].getD i 0) (RelR [Rel.val (.func (.func 63) #[] #[.pointer (some ⟨w.heap.size+1,0,none⟩)]),Rel.val (.pointer (some ⟨w.heap.size,0,none⟩)),Rel.val (.agg #[.string ea,.string eb,.string ec]),Rel.val (.string r0),Rel.val (.func (.func 63) #[] #[.pointer (some ⟨w.heap.size+1,0,none⟩)]),Rel.val (.pointer (some ⟨w.heap.size,3,none⟩)),Rel.val (.agg #[.string fa,.string fb,.string fc]),Rel.val (.string r1),Rel.val (.func (.func 63) #[] #[.pointer (some ⟨w.heap.size+1,0,none⟩)]),Rel.val (.pointer (some ⟨w.heap.size,6,none⟩)),Rel.val (.agg #[.string ja,.string jb,.string jc]),Rel.val (.string r2),Rel.val (.agg #[.string r0,.string r1,.string r2])]) (fun W=>Below W0.heap.size W0 W) (fun _ _=>True) (by kernel_rfl) (by kernel_rfl) (by kernel_rfl) trivial (Below.refl _ _).drew ?_ ?_
   · intro listed a W i hI hD hrd him
     obtain ⟨HI,HD,Hr⟩:=ai hI hD hrd;clear hI hrd hD;have y5:a.tmps[5]? = some (.func (.func 63) #[] #[.pointer (some ⟨w.heap.size+1,0,none⟩)]):=HI.out.rest 5 (by decide);have y2:a.tmps[2]? = some (.pointer (some ⟨w.heap.size,0,none⟩)):=HI.out.rest 2 (by decide);obtain ⟨dK10,dK11,dK12,dK13,dK14,dK15,dK16,dK17,dK18⟩:=dR (K1.out.below HI.out.world) rfl rfl rfl rfl rfl rfl rfl rfl rfl;have X1:RV _ listed a 1 8 (.pointer (some ⟨w.heap.size,0,none⟩)):=HI.out.rh;have X0:RV _ listed a 0 7 (.func (.func 63) #[] #[.pointer (some ⟨w.heap.size+1,0,none⟩)]):=HI.out.rh;have X2:RV _ listed a 2 9 (.agg #[.string ea,.string eb,.string ec]):=HI.out.rh;have X5:RV _ listed a 5 12 (.pointer (some ⟨w.heap.size,3,none⟩)):=HI.out.rh;have X4:RV _ listed a 4 11 (.func (.func 63) #[] #[.pointer (some ⟨w.heap.size+1,0,none⟩)]):=HI.out.rh;have X6:RV _ listed a 6 13 (.agg #[.string fa,.string fb,.string fc]):=HI.out.rh;have X9:RV _ listed a 9 16 (.pointer (some ⟨w.heap.size,6,none⟩)):=HI.out.rh;have X8:RV _ listed a 8 15 (.func (.func 63) #[] #[.pointer (some ⟨w.heap.size+1,0,none⟩)]):=HI.out.rh;have X10:RV _ listed a 10 17 (.agg #[.string ja,.string jb,.string jc]):=HI.out.rh;have X3:RV _ listed a 3 10 (.string r0):=HI.out.rh;have X7:RV _ listed a 7 14 (.string r1):=HI.out.rh;have X11:RV _ listed a 11 18 (.string r2):=HI.out.rh
     match i,him,Hr with
     | 0,_,Hi =>
       refine ak rfl fun K' hK=>?_;go_simp;exact hK.out _ _ ⟨HI.out.pv Hi.out rfl,trivial⟩
     | 1,_,Hi =>
       refine ak rfl fun K' hK=>?_;go_simp;exact hK.out _ _ ⟨HI.out.pv Hi.out rfl,trivial⟩
     | 2,_,Hi =>
       have x1:=X1.g Hi.out (by kernel_rfl);refine ak rfl fun K' hK=>?_;go_simp;exact hK.out _ _ ⟨HI.out.pv Hi.out rfl,trivial⟩
     | 3,_,Hi =>
       have x0:=X0.g Hi.out (by kernel_rfl);have x2:=X2.g Hi.out (by kernel_rfl);refine ak rfl fun K' hK=>?_;go_simp;with_reducible refine(E0.out _ HI.out.world).mono ?_
       rintro e W' ⟨rfl,hb⟩;exact hK.out _ _ ⟨HI.out.pc Hi.out hb rfl,trivial⟩
     | 4,_,Hi =>
       refine ak rfl fun K' hK=>?_;go_simp;exact hK.out _ _ ⟨HI.out.pv Hi.out rfl,trivial⟩
     | 5,_,Hi =>
       refine ak rfl fun K' hK=>?_;go_simp;exact hK.out _ _ ⟨HI.out.pv Hi.out rfl,trivial⟩
     | 6,_,Hi =>
       have x5:=X5.g Hi.out (by kernel_rfl);refine ak rfl fun K' hK=>?_;go_simp;exact hK.out _ _ ⟨HI.out.pv Hi.out rfl,trivial⟩
     | 7,_,Hi =>
       have x4:=X4.g Hi.out (by kernel_rfl);have x6:=X6.g Hi.out (by kernel_rfl);refine ak rfl fun K' hK=>?_;go_simp;with_reducible refine(E1.out _ HI.out.world).mono ?_
       rintro e W' ⟨rfl,hb⟩;exact hK.out _ _ ⟨HI.out.pc Hi.out hb rfl,trivial⟩
     | 8,_,Hi =>
       refine ak rfl fun K' hK=>?_;go_simp;exact hK.out _ _ ⟨HI.out.pv Hi.out rfl,trivial⟩
     | 9,_,Hi =>
       refine ak rfl fun K' hK=>?_;go_simp;exact hK.out _ _ ⟨HI.out.pv Hi.out rfl,trivial⟩
     | 10,_,Hi =>
       have x9:=X9.g Hi.out (by kernel_rfl);refine ak rfl fun K' hK=>?_;go_simp;exact hK.out _ _ ⟨HI.out.pv Hi.out rfl,trivial⟩
     | 11,_,Hi =>
       have x8:=X8.g Hi.out (by kernel_rfl);have x10:=X10.g Hi.out (by kernel_rfl);refine ak rfl fun K' hK=>?_;go_simp;with_reducible refine(E2.out _ HI.out.world).mono ?_
       rintro e W' ⟨rfl,hb⟩;exact hK.out _ _ ⟨HI.out.pc Hi.out hb rfl,trivial⟩
     | 12,_,Hi =>
       have x3:=X3.g Hi.out (by kernel_rfl);have x7:=X7.g Hi.out (by kernel_rfl);have x11:=X11.g Hi.out (by kernel_rfl);refine ak rfl fun K' hK=>?_;go_simp;exact hK.out _ _ ⟨HI.out.pv Hi.out rfl,trivial⟩
     | n+13,h,_=>exact absurd h (by omega)
   · intro listed a W hI hD hall
     have x12:a.tmps[19]? = some (.agg #[.string r0,.string r1,.string r2]):=hI.sx hall 12;obtain ⟨HBW,HI,HA⟩:=ai hI.world hI hall;clear hI hall;obtain ⟨K3,HBX⟩:=aF (K3.out.below HBW.out) (HB0.out.trans (HBW.out.mono HB0.out.size));have y4:a.tmps[4]? = some (.pointer (some ⟨w.heap.size+1+1,0,none⟩)):=HI.out.rest 4 (by decide);obtain ⟨dK30,dK31,dK32⟩:=aJ K3.out rfl rfl rfl;obtain ⟨fK30,fK31,fK32⟩:=bz K3.out;refine aS (t:=0) ?_;refine ak rfl fun K' hK=>?_;go_simp;refine hK.out _ _ ?_;clear hK;refine aY ?_;rw[← jv];exact⟨rfl,(HI.out.finx ⟨HI.out.sx HA.out 0,HI.out.sx HA.out 1,HI.out.sx HA.out 2,HI.out.sx HA.out 3,HI.out.sx HA.out 4,HI.out.sx HA.out 5,HI.out.sx HA.out 6,HI.out.sx HA.out 7,HI.out.sx HA.out 8,HI.out.sx HA.out 9,HI.out.sx HA.out 10,HI.out.sx HA.out 11,x12,trivial⟩ rfl),(ax (l:=[.string r0,.string r1,.string r2]) (i:=0) (by omega) HBX.out),(dM K3.out)⟩
 rintro a' W1 ⟨rfl,z0,z1⟩;have HB1:=hid z0;have K3:=hid z1;clear z0 z1;simp only[putL,List.setIfInBounds_toArray,List.set_cons_zero,List.set_cons_succ];go_wp2;obtain ⟨dK30,dK31,dK32⟩:=aJ K3.out rfl rfl rfl;exact bodyPost_ret (v:=.agg #[.string r0,.string r1,.string r2]) (by simp[results,results36,go_sem,dK30,dK31,dK32]) rfl ⟨rfl,HB1.out⟩
theorem fix2 (ea eb ec fa fb fc ja jb jc:ByteArray)(W:World):(Instr.index 67 (.agg #[.string ea,.string eb,.string ec,.string fa,.string fb,.string fc,.string ja,.string jb,.string jc]) (.int .i64 2)).run Tryz.prog W=.ok (.agg #[.string ja,.string jb,.string jc]) W:=by kernel_rfl
end Go.Proofs.YtlgkolkcokaefaaGreatDoor
