/- texts -/
import Derived.Test.YtlgkolkcokaefaaGreatDoorMz22q
import Derived.Lib.CutLaws
import Derived.Test.YtlgkolkcokaefaaGreatDoorMz16q
namespace Go.Proofs.YtlgkolkcokaefaaGreatDoor
open Go.RowKit Go.Gb
theorem index_hit (c:UInt8)(a b:List UInt8)(h:c∉a):Lib.index (a++c :: b) [c]=a.length:=by
 refine Lib.index_first (by simp) ?_ ?_
 · simp[Lib.occAt,List.isPrefixOf]
 · intro j hj
   unfold Lib.occAt
   rw[List.drop_append_of_le_length (by omega)]
   cases hd:a.drop j with
   | nil=>exact absurd (List.drop_eq_nil_iff.1 hd) (by omega)
   | cons x t =>
     have hx:x∈a:=List.mem_of_mem_drop (hd▸List.mem_cons_self);have h1:¬ c=x:=by rintro rfl;exact h hx
     simp[List.isPrefixOf,h1]
theorem oN (c:UInt8):∀ l:List UInt8,c∉l→Lib.index l [c] = -1
 | [],_=>rfl
 | x :: l,h=>by
   have h1:¬ c=x:=by rintro rfl;exact h List.mem_cons_self
   have h2:=oN c l (fun hm=>h (List.mem_cons_of_mem _ hm));unfold Lib.index
   rw[h2];simp[List.isPrefixOf,h1]
theorem z0C (c:UInt8)(a b:List UInt8)(h:c∉a):Lib.cut (a++c :: b) [c]=(a,b,true):=by
 unfold Lib.cut
 rw[index_hit c a b h,if_pos (by omega)];simp
theorem wP (c:UInt8)(l:List UInt8)(h:c∉l):Lib.cut l [c]=(l,[],false):=by
 unfold Lib.cut
 rw[oN c l h];rfl
theorem nL (c:UInt8)(l:List UInt8):(c∉l∧Lib.cut l [c]=(l,[],false))∨∃ a b,c∉a∧l=a++c :: b∧Lib.cut l [c]=(a,b,true):=by
 by_cases h:c∈l
 · obtain⟨a,b,e,hn⟩:=List.eq_append_cons_of_mem h
   exact Or.inr ⟨a,b,hn,e,by rw[e];exact z0C c a b hn⟩
 · exact Or.inl ⟨h,wP c l h⟩
theorem z0z (c:UInt8)(hc:isD c=false)(n:Nat):c∉Lib.decDigits n:=by
 intro h;have:=List.all_eq_true.1 (iR n) c h;rw[hc]at this;cases this
theorem z1i (c:UInt8)(hc:isD c=false)(h45:c≠45)(z:Int):c∉(Sz z).data.toList:=by
 rcases bQ z with⟨n,hn,rfl⟩|rfl|⟨n,hn,rfl⟩
 · rw[iZ hn]
   intro h;rcases List.mem_cons.1 h with h|h
   · exact h45 h
   · exact z0z c hc n h
 · rw[show Sz 0=Sn 0 from dK 0,bU];exact z0z c hc 0
 · rw[dK,bU];exact z0z c hc n
def Sq (q:Rat):ByteArray:=if q.den=1 then Sz q.num else ⟨((Sz q.num).data.toList++47 :: Lib.decDigits q.den).toArray⟩
theorem j5 {q:Rat}(h:q.den=1):Sq q=Sz q.num:=by unfold Sq;rw[if_pos h]
theorem pJ {q:Rat}(h:q.den≠1):Sq q=⟨((Sz q.num).data.toList++47 :: Lib.decDigits q.den).toArray⟩:=by unfold Sq;rw[if_neg h]
theorem gP {q:Rat}(h:q.den≠1):(Sq q).data.toList=(Sz q.num).data.toList++47 :: Lib.decDigits q.den:=by rw[pJ h]
theorem z1p (z:Int):Sq (Rat.ofInt z)=Sz z:=j5 rfl
theorem wQ {q:Rat}(h:q.den≠1):Lib.cut (Sq q).data.toList [47]=((Sz q.num).data.toList,Lib.decDigits q.den,true):=by
 rw[gP h];exact z0C 47 _ _ (z1i 47 (by decide) (by decide) _)
theorem z0B (z:Int):Lib.cut (Sz z).data.toList [47]=((Sz z).data.toList,[],false):=wP 47 _ (z1i 47 (by decide) (by decide) _)
def vldP (n d:List UInt8):Bool:=vldZ n&&vldZ d && !(d==[49])&&decide (1≤zval d)&&(Nat.gcd (zval n).natAbs (zval d).natAbs==1)
def vldQ (l:List UInt8):Bool:=if (Lib.cut l [47]).2.2 then vldP (Lib.cut l [47]).1 (Lib.cut l [47]).2.1 else vldZ l
def qval (l:List UInt8):Rat:=if (Lib.cut l [47]).2.2 then mkRat (zval (Lib.cut l [47]).1) (zval (Lib.cut l [47]).2.1).toNat else Rat.ofInt (zval l)
theorem z2P {l:List UInt8}(h:vldZ l=true):(Sz (zval l)).data.toList=l:=by
 have h1:=yQ (a:=⟨l.toArray⟩) (by simpa using h);have h2:=congrArg (fun b:ByteArray=>b.data.toList) h1;simpa using h2.symm
theorem z2r {l:List UInt8}(h:vldZ l=true)(h1:1≤zval l):l=Lib.decDigits (zval l).toNat:=by
 have h2:=z2P h;obtain⟨n,hn⟩:∃ n:Nat,zval l=n:=⟨(zval l).toNat,by omega⟩;rw[hn,dK,bU]at h2;rw[hn,Int.toNat_natCast,h2]
theorem xL (z:Int)(n:Nat)(hn:n≠0)(hg:Nat.gcd z.natAbs n=1):(mkRat z n).num=z∧(mkRat z n).den=n:=by
 have h:=mD z n hn;rw[hg]at h;simpa using h
theorem z3l {a:ByteArray}(h:vldQ a.data.toList=true):a=Sq (qval a.data.toList):=by
 cases a with
 | mk d =>
   simp only at h ⊢;obtain⟨l,rfl⟩:∃ l:List UInt8,d=l.toArray:=⟨d.toList,rfl⟩;simp only at h ⊢;rcases nL 47 l with⟨_,e⟩|⟨x,y,_,el,e⟩
   · unfold vldQ at h
     unfold qval
     rw[e]at h ⊢;simp only[Bool.false_eq_true,if_false]at h ⊢;rw[z1p];have h2:=yQ (a:=⟨l.toArray⟩) (by simpa using h);simpa using h2
   · unfold vldQ at h
     unfold qval
     rw[e]at h ⊢;simp only[if_true]at h ⊢;unfold vldP at h
     simp only[Bool.and_eq_true,decide_eq_true_eq,Bool.not_eq_true',beq_iff_eq]at h;obtain⟨⟨⟨⟨h1,h2⟩,h3⟩,h4⟩,h5⟩:=h;have hy:=z2r h2 h4;have hx:=z2P h1;obtain⟨m,hm⟩:∃ m:Nat,zval y=m:=⟨(zval y).toNat,by omega⟩;rw[hm]at h4 h5 hy ⊢;rw[Int.toNat_natCast]at hy ⊢;rw[Int.natAbs_natCast]at h5;obtain⟨p1,p2⟩:=xL (zval x) m (by omega) h5
     have hm1:m≠1:=by
        intro h6;subst h6;rw[Lib.decDigits_one (by decide)]at hy;rw[hy]at h3;simp at h3
     rw[pJ (by rw[p2];exact hm1),p1,p2,hx,← hy,el]
theorem z2Q (q:Rat):qval (Sq q).data.toList=q:=by
 unfold qval
 by_cases h:q.den=1
 · rw[j5 h,z0B]
   simp only[Bool.false_eq_true,if_false];rw[vJ];exact Rat.ext rfl h.symm
 · rw[wQ h]
   simp only[if_true];rw[vJ,mh,Int.toNat_natCast];exact Rat.mkRat_self q
theorem yV (q:Rat):(Sq q).toList=(Sq q).data.toList:=toList_data _
theorem yU {x y:Rat}(h:x≠y):((Sq x).toList==(Sq y).toList)=false:=by
 rw[beq_eq_false_iff_ne,yV,yV];intro h2;apply h
 rw[← z2Q x,← z2Q y,h2]
def SmQ (k:Nat) (q:Rat):Prop:=Sm k q.num.natAbs∧Sm k q.den
def FitQ (q:Rat):Prop:=SmQ 900 q
theorem SmQ.mono {k l:Nat}{q:Rat}(h:SmQ k q)(hkl:k≤l):SmQ l q:=⟨h.1.mono hkl,h.2.mono hkl⟩
theorem SmQ.fit {k:Nat}{q:Rat}(h:SmQ k q)(hk:k≤900):FitQ q:=SmQ.mono h hk
theorem SmQ.neg {k:Nat}{q:Rat}(h:SmQ k q):SmQ k (-q):=by
 obtain⟨e1,e2⟩:=zM q;unfold SmQ
 rw[e1,e2,Int.natAbs_neg];exact h
theorem z4l (z:Int)(n:Nat)(hn:n≠0):(mkRat z n).num.natAbs≤z.natAbs∧(mkRat z n).den≤n:=by
 obtain⟨e1,e2⟩:=mD z n hn;rw[e1,e2];exact⟨Int.natAbs_ediv_le_natAbs _ _,Nat.div_le_self _ _⟩
theorem vN {k:Nat}{z:Int}{n:Nat}(hn:n≠0)(h1:Sm k z.natAbs)(h2:Sm k n):SmQ k (mkRat z n):=by
 obtain⟨e1,e2⟩:=z4l z n hn;exact⟨h1.le e1,h2.le e2⟩
theorem iH (x y:Rat):x.den*y.den≠0:=Nat.mul_ne_zero x.den_nz y.den_nz
theorem SmQ.add {k l:Nat}{x y:Rat}(hx:SmQ k x)(hy:SmQ l y):SmQ (k+l+1) (x+y):=by
 rw[jw];refine vN (iH x y) ?_ ((hx.2.mul hy.2).mono (by omega));refine Sm.le ?_ (Int.natAbs_add_le _ _);rw[Int.natAbs_mul,Int.natAbs_mul,Int.natAbs_natCast,Int.natAbs_natCast];exact Sm.add (hx.1.mul hy.2) ((hy.1.mul hx.2).mono (by omega))
theorem SmQ.sub {k l:Nat}{x y:Rat}(hx:SmQ k x)(hy:SmQ l y):SmQ (k+l+1) (x-y):=by
 rw[Rat.sub_eq_add_neg];exact hx.add hy.neg
theorem SmQ.mul {k l:Nat}{x y:Rat}(hx:SmQ k x)(hy:SmQ l y):SmQ (k+l) (x*y):=by
 rw[jf];refine vN (iH x y) ?_ (hx.2.mul hy.2);rw[Int.natAbs_mul];exact hx.1.mul hy.1
theorem SmQ.inv {k:Nat}{x:Rat}(hx:SmQ k x)(h0:x≠0):SmQ k x⁻¹:=by
 have hn:x.num≠0:=fun h=>h0 (Rat.num_eq_zero.1 h);rcases Int.lt_or_gt_of_ne hn with h|h
 · obtain⟨e1,e2⟩:=kH h
   unfold SmQ
   rw[e1,Int.natAbs_neg,Int.natAbs_natCast,show(x⁻¹).den=x.num.natAbs by omega];exact⟨hx.2,hx.1⟩
 · obtain⟨e1,e2⟩:=nA h
   unfold SmQ
   rw[e1,Int.natAbs_natCast,show(x⁻¹).den=x.num.natAbs by omega];exact⟨hx.2,hx.1⟩
theorem SmQ.div {k l:Nat}{x y:Rat}(hx:SmQ k x)(hy:SmQ l y)(h0:y≠0):SmQ (k+l) (x / y):=by
 rw[Rat.div_def];exact hx.mul (hy.inv h0)
theorem j6 {z:Int}{k:Nat}(h:(Sz z).size≤k):Sm k z.natAbs:=by
 rcases bQ z with⟨n,hn,rfl⟩|rfl|⟨n,hn,rfl⟩
 · rw[Int.natAbs_neg,Int.natAbs_natCast]
   rw[iZ hn]at h
   have h1:=Sm.of (a:=Sn n) (k:=k) (dS n) (by
    have h2:(Sn n).size=(Lib.decDigits n).length:=by rw[← aG,bU]
    have h3:(⟨(45 :: Lib.decDigits n).toArray⟩:ByteArray).size=(Lib.decDigits n).length+1:=by simp[ByteArray.size]
    omega)
   rwa [bR]at h1
 · rw[show Sz 0=Sn 0 from dK 0]at h
   have h1:=Sm.of (a:=Sn 0) (k:=k) (dS 0) h;rwa [bR]at h1
 · rw[Int.natAbs_natCast]
   rw[dK]at h;have h1:=Sm.of (a:=Sn n) (k:=k) (dS n) h;rwa [bR]at h1
theorem zf {q:Rat}{k:Nat}(h:(Sq q).size≤k)(hk:0<k):SmQ k q:=by
 by_cases h1:q.den=1
 · rw[j5 h1]at h
   refine⟨j6 h,?_⟩;rw[h1];exact Nat.one_lt_pow (by omega) (by decide)
 · have h2:(Sq q).size=(Sz q.num).size+1+(Sn q.den).size:=by
    rw[← aG,gP h1,← aG,← aG,bU];simp;omega
   refine⟨j6 (by omega),?_⟩;have h3:=Sm.of (a:=Sn q.den) (k:=k) (dS _) (by omega);rwa [bR]at h3
theorem FitQ.num {q:Rat}(h:FitQ q):FitZ q.num:=by unfold FitZ Fit;exact Sm.mono (k:=900) h.1 (by decide)
theorem FitQ.den {q:Rat}(h:FitQ q):Fit q.den:=by unfold Fit;exact Sm.mono (k:=900) h.2 (by decide)
theorem jO {z:Int}{k:Nat}(h:Sm k z.natAbs)(hk:0<k):(Sz z).size≤k+1:=by
 rcases bQ z with⟨n,hn,rfl⟩|rfl|⟨n,hn,rfl⟩
 · rw[Int.natAbs_neg,Int.natAbs_natCast]at h
   have h1:=ic h hk;have h2:(Sn n).size=(Lib.decDigits n).length:=by rw[← aG,bU]
   have h3:(Sz (-(n:Int))).size=(Lib.decDigits n).length+1:=by rw[iZ hn];simp[ByteArray.size]
   omega
 · have h1:=ic h hk
   rw[show Sz 0=Sn 0 from dK 0];simp at h1
   omega
 · rw[Int.natAbs_natCast]at h
   have h1:=ic h hk;rw[dK];omega
theorem yT {q:Rat}{k:Nat}(h:SmQ k q)(hk:0<k):(Sq q).size≤k+1+1+k:=by
 have h1:=jO h.1 hk;have h2:=ic h.2 hk;by_cases h3:q.den=1
 · rw[j5 h3];omega
 · have h4:(Sq q).size=(Sz q.num).size+1+(Sn q.den).size:=by
    rw[← aG,gP h3,← aG,← aG,bU];simp;omega
   omega
theorem oH {n:Nat}(h:n<10^18):Lib.parseIntB 64 (Lib.decDigits n)=.ok (n:Int):=by
 have hl:(Lib.decDigits n).length≤18:=qF 18 n h (by decide);have hp:=mZ (Lib.decDigits n) (mR n) (by omega);rw[fH]at hp;obtain⟨c,t,hd,hc⟩:=jD (n:=n);have hD:isD c=true:=List.all_eq_true.1 (iR n) c (by rw[hd];exact List.mem_cons_self);have hD':=(eQ c).1 hD;rw[hd]at hp ⊢;unfold Lib.parseIntB
 have h1:¬ c.toNat=43:=by omega
 have h2:¬ c.toNat=45:=by omega
 simp only[h1,h2,or_self,if_false,hp]
 have h3:¬ (2^(64-1)≤n):=by
  have:(10:Nat)^18<2^(64-1):=by decide
  omega
 simp[h3]
theorem xK {n:Nat}(h:n<10^18):Lib.parseIntB 64 (45 :: Lib.decDigits n)=.ok (-(n:Int)):=by
 have hl:(Lib.decDigits n).length≤18:=qF 18 n h (by decide);have hp:=mZ (Lib.decDigits n) (mR n) (by omega);rw[fH]at hp;unfold Lib.parseIntB
 have e:(45:UInt8).toNat=45:=rfl;simp only[e,or_true,if_true,hp]
 have h3:¬ (2^(64-1)<n):=by
  have:(10:Nat)^18<2^(64-1):=by decide
  omega
 simp[h3]
theorem z1I {z:Int}(h:(Sz z).size≤18):Lib.parseIntB 64 (Sz z).data.toList=.ok z:=by
 have hs:=j6 h;rcases bQ z with⟨n,hn,rfl⟩|rfl|⟨n,hn,rfl⟩
 · rw[Int.natAbs_neg,Int.natAbs_natCast]at hs
   rw[iZ hn];exact xK hs
 · rw[show Sz 0=Sn 0 from dK 0,bU]
   exact oH (by decide)
 · rw[Int.natAbs_natCast]at hs
   rw[dK,bU];exact oH hs
theorem z3x (z:Int):(⟨(Lib.itoa z).toArray⟩:ByteArray)=Sz z:=by
 unfold Lib.itoa Sz
 split
 · rfl
 · unfold Sn
   rw[show z.toNat=z.natAbs by omega]
set_option maxRecDepth 100000
set_option maxHeartbeats 20000000
open Go.Lib (hid)
theorem z4y (B g F S P Q a b c d f s:Nat)(n o:Bool)(hm:Made a b c d o F S f s)(hf:Fac a b c d)(hd9:d≤1000000000)(hlF:(ae F).length≤80000)(hlS:(ae S).length≤80000)(hlP:(ae P).length≤80000)(hlQ:(ae Q).length≤80000)(w:World)(h:EuSt B w g F S P Q n)(hB:B≤w.heap.size) :
 Calls Tryz.prog 195 #[.pointer (some ⟨g,0,none⟩),.agg #[.int .u64 (a:Int),.int .u64 (b:Int),.int .u64 (c:Int),.int .u64 (d:Int),.bool o]] w fun e w'=>e=.returned (.tuple #[])∧Hid (EuSt B w' g f s (a*P+b*Q) (c*P+d*Q) (n != o))∧Below B w w':=by
 cases o with
 | false=>exact xX B g F S P Q a b c d f s n hm hf hd9 hlF hlS hlP hlQ w h hB
 | true=>exact z0w B g F S P Q a b c d f s n hm hf hd9 hlF hlS hlP hlQ w h hB
theorem EuSt.kp {B g F S P Q:Nat}{n:Bool}{w w':World}(h:EuSt B w g F S P Q n){Z:Nat→Prop}(hk:Kp Z w w')(hg:¬ Z g)(hn:∀ {v:Value} {xs:List Nat},Own .u64 110 B w v xs→∀ k,At v k→¬ Z k):EuSt B w' g F S P Q n:=by
 obtain⟨vf,vs,vp,vq,hE,hBg,L⟩:=h;exact⟨vf,vs,vp,vq,hE.kp hk hg,hBg,L.kp hk (fun k h=>h.elim (hn L.f k) (fun h=>h.elim (hn L.s k) (fun h=>h.elim (hn L.p k) (hn L.q k))))⟩
theorem EuSt.below {B g F S P Q:Nat}{n:Bool}{w w':World}(h:EuSt B w g F S P Q n)(hb:Below w.heap.size w w'):EuSt B w' g F S P Q n :=
 h.kp (Z:=fun _=>False) (Kp.of_below hb) (fun h=>h) (fun _ _ _ h=>h)
theorem z3u {w:World}(g a b c d:Nat)(o:Bool):Kp (fun k=>k=g) w (set5 w g a b c d o) :=
 (((((Kp.refl (fun k=>k=g) w).set (p:=⟨g,0,none⟩) (fun _=>rfl) _).set (p:=⟨g,1,none⟩) (fun _=>rfl) _).set (p:=⟨g,2,none⟩) (fun _=>rfl) _).set (p:=⟨g,3,none⟩) (fun _=>rfl) _).set (p:=⟨g,4,none⟩) (fun _=>rfl) _
theorem EuSt.set5 {B g k F S P Q a b c d:Nat}{o n:Bool}{w:World}(h:EuSt B w g F S P Q n)(hs:Sb w k a b c d o)(a' b' c' d':Nat)(o':Bool):EuSt B (set5 w k a' b' c' d' o') g F S P Q n:=by
 obtain⟨vf,vs,vp,vq,hE,_,_⟩:=id h;exact h.kp (z3u k a' b' c' d' o') (jl hE hs) (fun ho j hj e=>kv hs ho (e▸hj))
theorem EuSt.alloc {B g F S P Q:Nat}{n:Bool}{w:World}(h:EuSt B w g F S P Q n)(x:Obj):EuSt B (w.alloc x) g F S P Q n:=h.below ((Below.refl _ w).alloc (Nat.le_refl _) x)
theorem EuSt.drew {B g F S P Q:Nat}{n:Bool}{w:World}(h:EuSt B w g F S P Q n):EuSt B w.drew g F S P Q n:=h.below ((Below.refl _ w).drew)
def EuN (k G F S:Nat):Prop:=k=F+S∧S≤F∧Nat.gcd F S=G
theorem z0r {B g F S P Q a b c d:Nat}{n o:Bool}{w w1:World}(h:EuSt B w g F S P Q n)(hB:B≤w.heap.size)(hb:Below w.drew.heap.size w.drew w1) :
 Sb (w1.alloc (.cells #[.int .u64 (a:Int),.int .u64 (b:Int),.int .u64 (c:Int),.int .u64 (d:Int),.bool o] 192)) w1.heap.size a b c d o∧EuSt B (w1.alloc (.cells #[.int .u64 (a:Int),.int .u64 (b:Int),.int .u64 (c:Int),.int .u64 (d:Int),.bool o] 192)) g F S P Q n ∧
 Below B w (w1.alloc (.cells #[.int .u64 (a:Int),.int .u64 (b:Int),.int .u64 (c:Int),.int .u64 (d:Int),.bool o] 192)) :=
 ⟨ku w1 a b c d o,(h.drew.below hb).alloc _,((Below.refl B w).drew.trans (hb.mono hB)).alloc (Nat.le_trans hB hb.size) _⟩
theorem z0q {B g F S P Q a b c d:Nat}{n o:Bool}{w w1:World}(h:EuSt B w g F S P Q n)(hB:B≤w.heap.size)(hb:Below (w.alloc (.cells #[.int .u64 0,.int .u64 0,.int .u64 0,.int .u64 0,.bool false] 192)).drew.heap.size (w.alloc (.cells #[.int .u64 0,.int .u64 0,.int .u64 0,.int .u64 0,.bool false] 192)).drew w1) :
 Sb (set5 w1 w.heap.size a b c d o) w.heap.size a b c d o∧EuSt B (set5 w1 w.heap.size a b c d o) g F S P Q n∧Below B w (set5 w1 w.heap.size a b c d o):=by
 have hs:Sb w1 w.heap.size 0 0 0 0 false:=bE (uf (ku w 0 0 0 0 false)) hb;have he:EuSt B w1 g F S P Q n:=((h.alloc _).drew).below hb;refine⟨fC hs a b c d o,he.set5 hs a b c d o,cK ?_ hB a b c d o⟩;exact(((Below.refl B w).alloc hB _).drew).trans (hb.mono (Nat.le_trans hB (by show _≤(World.alloc _ _).heap.size;rw[World.size_alloc];omega)))
theorem eRun (I:Nat→Nat→Nat→Nat→Bool→Prop)(hI:Keeps I)(B g F S P Q:Nat)(n:Bool)(h0:I F S P Q n)(w:World)(h:EuSt B w g F S P Q n)(hB:B≤w.heap.size) :
 Calls Tryz.prog 164 #[.pointer (some ⟨g,0,none⟩)] w fun e w'=>∃ (P' Q':Nat) (n':Bool),e=.returned (.tuple #[])∧Hid (EuSt B w' g (Nat.gcd F S) 0 P' Q' n')∧Hid (I (Nat.gcd F S) 0 P' Q' n')∧Below B w w':=by
 obtain ⟨HI,H0,HE,HB⟩:=aH hI h0 h hB;obtain⟨l1,l2,l3,l4⟩:=hI.len F S P Q n h0;obtain⟨vf,vs,vp,vq,hE,hBg,L⟩:=h;have HLs:=hid (mJ vf vs F S (by omega) w.drew L.f.rd L.s.rd);obtain⟨c0,c1,c2,c3,c4⟩:=hE.cells;clear hI h0 hB hE L hBg l1 l2 l3 l4;go_enter Tryz.func164,Tryz.ntmps164
 go_upto_region 0 with fail
 go_cut [11] (fun v wx=>v=.bool (decide (F<S))∧Hid (EuSt B wx g F S P Q n)∧Hid (Below B w wx))
 case first =>
  go_region_with (go_at_call 192;go_must (refine HLs.out.mono ?_;rintro e w1 ⟨rfl,hb1⟩))
  all_goals
   have E':=hid (HE.out.drew.below hb1);have B':=hid (show Below B w w1 from(Below.refl B w).drew.trans (hb1.mono HB.out));clear hb1;go_wp2_with fail
   go_meet
   exact⟨rfl,E',B'⟩
 case rest =>
  clear c0 c1 c2 c3 c4 HLs HE;obtain⟨rfl,HE,HW⟩:=hcut;go_upto_if 11 with fail
  go_cut [12] (fun _ wx=>∃ (F' S' P' Q':Nat) (n':Bool),Hid (EuN (F+S) (Nat.gcd F S) F' S')∧Hid (EuSt B wx g F' S' P' Q' n')∧Hid (I F' S' P' Q' n')∧Hid (Below B w wx))
  case first =>
   by_cases hFS:F<S
   · rw[decide_eq_true hFS]
     obtain⟨l1,l2,l3,l4⟩:=HI.out.len F S P Q n H0.out;have hn:=HI.out.div F S P Q n (by omega) H0.out;have ln:=HI.out.len _ _ _ _ _ hn;have HDv:=hid (z0v B g F S P Q n (by omega) l1 l3 l4 ln.2.2.2 wc HE.out (Nat.le_trans HB.out HW.out.size));rw[Nat.mod_eq_of_lt hFS]at hn HDv;have HN:=hid hn;have HA:=hid (show EuN (F+S) (Nat.gcd F S) S F from⟨Nat.add_comm _ _,Nat.le_of_lt hFS,Nat.gcd_comm _ _⟩);clear hn ln l1 l2 l3 l4 hFS;go_wp2_with fail
     refine HDv.out.mono ?_;rintro e w2 ⟨rfl,hE2,hb2⟩;have HW2:=hid (HW.out.trans hb2);clear hb2;go_wp2_with fail
     go_meet
     exact⟨S,F,Q,_,_,HA,hE2,HN,HW2⟩
   · rw[decide_eq_false hFS]
     have HA:=hid (show EuN (F+S) (Nat.gcd F S) F S from⟨rfl,by omega,rfl⟩);clear hFS;go_wp2_with fail
     go_meet
     exact⟨F,S,P,Q,n,HA,HE,H0,HW⟩
  case rest =>
   clear HE HW H0;obtain⟨F0,S0,P0,Q0,n0,hA0,hE0,hI0,hW0⟩:=hcut;go_wp2;go_loopg [2] (F+S) (fun k _ wr=>∃ (F' S' P' Q':Nat) (n':Bool),Hid (EuN k (Nat.gcd F S) F' S')∧Hid (EuSt B wr g F' S' P' Q' n')∧Hid (I F' S' P' Q' n')∧Hid (Below B w wr))
   case atStart=>exact⟨F0,S0,P0,Q0,n0,hA0,hE0,hI0,hW0⟩
   case round =>
        obtain⟨F1,S1,P1,Q1,n1,hA,hE,hJ,hW⟩:=hrel;clear hA0 hE0 hI0 hW0;obtain⟨vf,vs,vp,vq,hEb,hBg,L⟩:=hE.out;obtain⟨af,cf,rfl⟩:=aU L.f.rd;obtain⟨as_,cs_,rfl⟩:=aU L.s.rd;obtain⟨c0,c1,c2,c3,c4⟩:=hEb.cells;obtain⟨l1,l2,l3,l4⟩:=HI.out.len _ _ _ _ _ hJ.out;by_cases hS1:S1=0
        · subst hS1
          rw[aP,show([]:List Nat).length=0 from rfl]at c1;clear hEb L hBg c0 c2 c3 c4 l1 l2 l3 l4;have hg:=hA.out.2.2;rw[Nat.gcd_zero_right]at hg;have HG:=hid hg;clear hg;go_wp2;go_end0
          exact⟨P1,Q1,n1,rfl,by rw[← HG.out];exact hE,by rw[← HG.out];exact hJ,hW.out⟩
        · have hm:0<(ae S1).length:=by rw[bI hS1];simp
          have HFo:=hid (nI _ _ F1 S1 hS1 hA.out.2.1 l1 wr.drew L.f.rd L.s.rd);have HFo2:=hid (nI _ _ F1 S1 hS1 hA.out.2.1 l1 (wr.alloc (.cells #[.int .u64 0,.int .u64 0,.int .u64 0,.int .u64 0,.bool false] 192)).drew (L.f.rd.below ((Below.refl _ wr).alloc (Nat.le_refl _) _).drew) (L.s.rd.below ((Below.refl _ wr).alloc (Nat.le_refl _) _).drew));unfold Stp at HFo HFo2
          obtain ⟨hZ,HS1⟩:=aD (Nat.le_trans HB.out hW.out.size) hS1;generalize (ae S1).length=m at *;generalize (ae F1).length=mf at *;have hgw:=hEb.lt;have GA:=hid (show g<wr.drew.heap.size from hgw);have GB:=hid (show g<(wr.alloc (.cells #[.int .u64 0,.int .u64 0,.int .u64 0,.int .u64 0,.bool false] 192)).drew.heap.size by show _<(World.alloc _ _).heap.size;rw[World.size_alloc];omega);have DA0:=hid (show wr.drew.cell? ⟨g,0,none⟩=some (.slice af mf cf) from c0);have DA1:=hid (show wr.drew.cell? ⟨g,1,none⟩=some (.slice as_ m cs_) from c1);have DB0:=hid (show(wr.alloc (.cells #[.int .u64 0,.int .u64 0,.int .u64 0,.int .u64 0,.bool false] 192)).drew.cell? ⟨g,0,none⟩=some (.slice af mf cf) by rw[mQ,eF hgw];exact c0);have DB1:=hid (show(wr.alloc (.cells #[.int .u64 0,.int .u64 0,.int .u64 0,.int .u64 0,.bool false] 192)).drew.cell? ⟨g,1,none⟩=some (.slice as_ m cs_) by rw[mQ,eF hgw];exact c1);clear hEb L hBg l1 l2 l3 l4 hS1;go_upto_region 3 with fail
          go_cut [2]from 14 to 36 (fun v2 wx=>∃ (k a b c d:Nat) (o:Bool),v2=.pointer (some ⟨k,0,none⟩)∧Hid (Sb wx k a b c d o)∧Hid (EuSt B wx g F1 S1 P1 Q1 n1)∧Hid (Seen F1 S1 a b c d o)∧Hid (Below B w wx))
          case first =>
           go_region_held3 (fun w'=>w'.cell? ⟨g,0,none⟩=some (.slice af mf cf)∧w'.cell? ⟨g,1,none⟩=some (.slice as_ m cs_)) (first|((try go_split_ands);refine⟨?_,?_⟩<;>(first|(with_reducible assumption)|((repeat (first|rw[mQ]|rw[eF (by first|assumption|omega|(simp;done)|(simp;omega))]|rw[yD (by omega)]));first|(with_reducible assumption)|(simp;done))))|(go_keep;done))
            (first
               | (go_at_call 194;(refine(HFo.out).mono ?_);rintro e w1 ⟨a,b,c,d,o,rfl,hSeen,hb1⟩;have HB1:=hid hb1;obtain⟨hc1,hf1⟩:=wbc hb1;have hz1:=hb1.size;(try simp at hz1);have d0:w1.cell? ⟨g,0,none⟩=some (.slice af mf cf):=(hc1 _ _ GA.out).trans DA0.out;have d1:w1.cell? ⟨g,1,none⟩=some (.slice as_ m cs_):=(hc1 _ _ GA.out).trans DA1.out)
               | (go_at_call 194;(refine(HFo2.out).mono ?_);rintro e w1 ⟨a,b,c,d,o,rfl,hSeen,hb1⟩;have HB1:=hid hb1;obtain⟨hc1,hf1⟩:=wbc hb1;have hz1:=hb1.size;(try simp at hz1);have d0:w1.cell? ⟨g,0,none⟩=some (.slice af mf cf):=(hc1 _ _ GB.out).trans DB0.out;have d1:w1.cell? ⟨g,1,none⟩=some (.slice as_ m cs_):=(hc1 _ _ GB.out).trans DB1.out))
           · obtain⟨q1,q2,q3⟩:=z0r (a:=a) (b:=b) (c:=c) (d:=d) (o:=o) hE.out hZ.out HB1.out
             obtain ⟨Q1,Q2,Q3⟩:=ah q1 q2 (hW.out.trans q3);clear q1 q2 q3;go_wp2_with fail
             go_meet
             exact⟨_,a,b,c,d,o,rfl,Q1,Q2,hSeen,Q3⟩
           · obtain⟨q1,q2,q3⟩:=z0q (a:=a) (b:=b) (c:=c) (d:=d) (o:=o) hE.out hZ.out HB1.out
             obtain ⟨Q1,Q2,Q3⟩:=ah q1 q2 (hW.out.trans q3);clear q1 q2 q3;go_wp2_with fail
             go_meet
             exact⟨_,a,b,c,d,o,rfl,Q1,Q2,hSeen,Q3⟩
          case rest =>
           clear hE hW hZ c0 c1 c2 c3 c4 HFo HFo2 hgw;obtain⟨k,a,b,c,d,o,rfl,hS,hE,hSeen,hW⟩:=hcut;have hZ:=Nat.le_trans HB.out hW.out.size;obtain⟨s0,s1,s2,s3,s4⟩:=bC hS.out;obtain⟨l1,l2,l3,l4⟩:=HI.out.len _ _ _ _ _ hJ.out;obtain⟨hk,hle,hg⟩:=hA.out;by_cases hb:b=0
           · have hbz:((b:Int)==0)=true:=beq_iff_eq.2 (by omega)
             have hn:=HI.out.div F1 S1 P1 Q1 n1 HS1.out hJ.out;have ln:=HI.out.len _ _ _ _ _ hn;have HDv:=hid (z0v B g F1 S1 P1 Q1 n1 HS1.out l1 l3 l4 ln.2.2.2 wc hE.out hZ);have hlt:=Nat.mod_lt F1 (Nat.pos_of_ne_zero HS1.out);have HA:=hid (show EuN (S1+F1%S1) (Nat.gcd F S) S1 (F1%S1) from⟨rfl,Nat.le_of_lt hlt,by rw[← hg,Nat.gcd_comm S1,← Nat.gcd_rec,Nat.gcd_comm]⟩);have HLt:=hid (show S1+F1%S1<gk by omega);have HN:=hid hn;clear hn ln hlt hk hle hg l1 l2 l3 l4 hb hZ;go_wp2_with fail
             refine HDv.out.mono ?_;rintro e w2 ⟨rfl,hE2,hb2⟩;have HW2:=hid (hW.out.trans hb2);clear hb2;go_wp2;go_roundg (S1+F1%S1)
             case measure=>exact HLt.out
             case rel=>exact⟨S1,F1%S1,Q1,_,_,HA,hE2,HN,HW2⟩
           · have hbz:((b:Int)==0)=false:=beq_eq_false_iff_ne.2 (by omega)
             have hF1:F1≠0:=by have:=HS1.out;omega
             obtain⟨f,s,hm,hsf,hFac,hD,hd9⟩:=hSeen.out.resolve_left hb;have hn:=HI.out.app F1 S1 P1 Q1 n1 a b c d o f s hF1 hb hm hD hFac hsf hJ.out;have HAp:=hid (z4y B g F1 S1 P1 Q1 a b c d f s n1 o hm hFac hd9 l1 l2 l3 l4 wc hE.out hZ);have HA:=hid (show EuN (f+s) (Nat.gcd F S) f s from⟨rfl,hsf,by rw[hm.gcd hD,hg]⟩);have HLt:=hid (show f+s<gk by have:=hm.less hD hFac hb hF1 hsf;omega);have HN:=hid hn;clear hn hk hle hg l1 l2 l3 l4 hb hZ hF1 hm hsf hFac hD hd9;go_wp2_with fail
             refine HAp.out.mono ?_;rintro e w2 ⟨rfl,hE2,hb2⟩;have HW2:=hid (hW.out.trans hb2);clear hb2;go_wp2;go_roundg (f+s)
             case measure=>exact HLt.out
             case rel=>exact⟨f,s,_,_,_,HA,hE2,HN,HW2⟩
end Go.Proofs.YtlgkolkcokaefaaGreatDoor
set_option maxRecDepth 100000
set_option maxHeartbeats 20000000
open Go.Lib (hid)
namespace Go.Proofs.YtlgkolkcokaefaaGreatDoor
open Go.RowKit Go.Gb
theorem wN {B a b:Nat}{u1 u2 u3 u4:Value}{P Q:Nat}{w:World}(hB:B≤w.heap.size)(o1:Own .u64 110 B w u1 (ae a))(o2:Own .u64 110 B w u2 (ae b))(o3:Own .u64 110 B w u3 (ae P))(o4:Own .u64 110 B w u4 (ae Q))
 (a12:Apt u1 u2) (a13:Apt u1 u3) (a14:Apt u1 u4) (a23:Apt u2 u3) (a24:Apt u2 u4) (a34:Apt u3 u4) (n:Bool) :
 EuSt B (w.alloc (.cells #[u1,u2,u3,u4,.bool n] 199)) w.heap.size a b P Q n:=by
 have hb:=(Below.refl _ w).alloc (Nat.le_refl _) (.cells #[u1,u2,u3,u4,.bool n] 199);refine⟨u1,u2,u3,u4,?_,hB,⟨o1.below hb,o2.below hb,o3.below hb,o4.below hb,a12,a13,a14,a23,a24,a34⟩⟩;unfold Eb
 rw[heap_alloc_new]
theorem vC (v1 v2:Value)(a b:Nat)(hl:2<(ae a).length∨2<(ae b).length)(hla:(ae a).length≤70000)(hlb:(ae b).length≤70000)(w:World)(h1:Rd .u64 w v1 (ae a))(h2:Rd .u64 w v2 (ae b)) :
 Calls Tryz.prog 141 #[v1,v2] w fun e w'=>∃ v,e=.returned v∧Own .u64 110 w.heap.size w' v (ae (Nat.gcd a b))∧Below w.heap.size w w':=by
 have hlN:(ae (a+b)).length≤80000:=by
  have:=gZ hla hlb;omega
 have HI:=hid (CmI.keeps hlN);have HC1:=hid (nV v1 (ae a) (by omega) w h1);have HC2:=hid (fun W (h:Rd .u64 W v2 (ae b))=>nV v2 (ae b) (by omega) W h);have HR2:=hid h2;by_cases hs:(ae a).length≤2
 · have s1:=hid (jT v1 _ hs w h1)
   have s2:=hid (oL v2 _ (by omega) (by omega) w h2);clear hl hla hlb h1 h2 hlN hs;go_enter Tryz.func141,Tryz.ntmps141
   go_wp2_with fail
   refine s1.out.mono ?_;rintro e w' ⟨rfl,rfl⟩;go_wp2_with fail
   refine s2.out.mono ?_;rintro e w' ⟨rfl,rfl⟩;clear s1 s2;go_wp2_with fail
   refine HC1.out.mono ?_;rintro e w1 ⟨u1,rfl,ho1,hb1⟩;obtain⟨a1,c1,rfl⟩:=aU ho1.rd;obtain ⟨HO1,HB1,HD2⟩:=ah ho1 hb1 (HC2.out w1 (HR2.out.below hb1));clear ho1 hb1;go_wp2_with fail
   refine HD2.out.mono ?_;rintro e w2 ⟨u2,rfl,ho2,hb2⟩;obtain⟨a2,c2,rfl⟩:=aU ho2.rd;have hB2:=HB1.out.trans (hb2.mono HB1.out.size)
   have hst:=wN (n:=false) hB2.size (HO1.out.below hb2) (ho2.mono HB1.out.size) (u3:=.slice none 0 0) (u4:=.slice none 0 0) (P:=0) (Q:=0) (by rw[aP];exact Own.nil _ _ _ _) (by rw[aP];exact Own.nil _ _ _ _)
    (eO ho2 _ (fun g hg=>(HO1.out.at hg).2)).symm (Apt.nil_right _ _ _) (Apt.nil_right _ _ _) (Apt.nil_right _ _ _) (Apt.nil_right _ _ _) (Apt.nil_right _ _ _)
   have hB3:=hB2.alloc hB2.size (.cells #[.slice a1 (ae a).length c1,.slice a2 (ae b).length c2,.slice none 0 0,.slice none 0 0,.bool false] 199);have HRun:=hid (eRun _ HI.out w.heap.size w2.heap.size a b 0 0 false ⟨Nat.le_refl _,rfl,rfl⟩ _ hst hB3.size);have HB3:=hid hB3;clear ho2 hb2 hB2 hst hB3 HO1 HB1 HC1 HC2 HD2 HR2;go_wp2_with fail
   refine HRun.out.mono ?_;rintro e w4 ⟨P',Q',n',rfl,hE,_,hb4⟩;have HB4:=hid (HB3.out.trans hb4);obtain⟨vf,vs,vp,vq,hEb,_,L⟩:=hE.out;obtain⟨c0,_,_,_,_⟩:=hEb.cells;have HF:=hid L.f;clear hE hEb L hb4 HRun;go_wp2;go_ret
   exact⟨vf,rfl,HF.out,HB4.out⟩
 · have s1:=hid (oL v1 _ (by omega) (by omega) w h1)
   clear hl hla hlb h1 h2 hlN hs;go_enter Tryz.func141,Tryz.ntmps141
   go_wp2_with fail
   refine s1.out.mono ?_;rintro e w' ⟨rfl,rfl⟩;clear s1;go_wp2_with fail
   refine HC1.out.mono ?_;rintro e w1 ⟨u1,rfl,ho1,hb1⟩;obtain⟨a1,c1,rfl⟩:=aU ho1.rd;obtain ⟨HO1,HB1,HD2⟩:=ah ho1 hb1 (HC2.out w1 (HR2.out.below hb1));clear ho1 hb1;go_wp2_with fail
   refine HD2.out.mono ?_;rintro e w2 ⟨u2,rfl,ho2,hb2⟩;obtain⟨a2,c2,rfl⟩:=aU ho2.rd;have hB2:=HB1.out.trans (hb2.mono HB1.out.size)
   have hst:=wN (n:=false) hB2.size (HO1.out.below hb2) (ho2.mono HB1.out.size) (u3:=.slice none 0 0) (u4:=.slice none 0 0) (P:=0) (Q:=0) (by rw[aP];exact Own.nil _ _ _ _) (by rw[aP];exact Own.nil _ _ _ _)
    (eO ho2 _ (fun g hg=>(HO1.out.at hg).2)).symm (Apt.nil_right _ _ _) (Apt.nil_right _ _ _) (Apt.nil_right _ _ _) (Apt.nil_right _ _ _) (Apt.nil_right _ _ _)
   have hB3:=hB2.alloc hB2.size (.cells #[.slice a1 (ae a).length c1,.slice a2 (ae b).length c2,.slice none 0 0,.slice none 0 0,.bool false] 199);have HRun:=hid (eRun _ HI.out w.heap.size w2.heap.size a b 0 0 false ⟨Nat.le_refl _,rfl,rfl⟩ _ hst hB3.size);have HB3:=hid hB3;clear ho2 hb2 hB2 hst hB3 HO1 HB1 HC1 HC2 HD2 HR2;go_wp2_with fail
   refine HRun.out.mono ?_;rintro e w4 ⟨P',Q',n',rfl,hE,_,hb4⟩;have HB4:=hid (HB3.out.trans hb4);obtain⟨vf,vs,vp,vq,hEb,_,L⟩:=hE.out;obtain⟨c0,_,_,_,_⟩:=hEb.cells;have HF:=hid L.f;clear hE hEb L hb4 HRun;go_wp2;go_ret
   exact⟨vf,rfl,HF.out,HB4.out⟩
theorem yx (a b:Nat)(hla:(ae a).length≤70000)(hlb:(ae b).length≤70000):z2L a b:=by
 intro v1 v2 w h1 h2;by_cases h:(ae a).length≤2∧(ae b).length≤2
 · exact tO v1 v2 a b h.1 h.2 w h1 h2
 · exact vC v1 v2 a b (by omega) hla hlb w h1 h2
