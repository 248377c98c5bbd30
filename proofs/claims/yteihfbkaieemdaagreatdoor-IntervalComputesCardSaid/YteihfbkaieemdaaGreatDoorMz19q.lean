/- texts -/
import Derived.Test.YteihfbkaieemdaaGreatDoorMz13q
import Derived.Test.YteihfbkaieemdaaGreatDoorMz16q
import Derived.Lib.CutLaws
import Derived.Test.YteihfbkaieemdaaGreatDoorMz18q
import Derived.Lib.SmallJoins
namespace Go.Gb
theorem z2w {Yt Z V r P t c B:Nat}(hZ:Z<P)(hr:r<P)(hs:Yt+V=Z+P*c)(hY:Yt+P*t+V=r+P*B):c+t=B:=by
 have h:Z+P*(c+t)=r+P*B:=by rw[Nat.mul_add];omega
 have hP:0<P:=by omega
 have h1:=congrArg (· / P) h;simp only[Nat.add_mul_div_left _ _ hP,Nat.div_eq_of_lt hZ,Nat.div_eq_of_lt hr,Nat.zero_add]at h1;exact h1
end Go.Gb
namespace Go.Proofs.YteihfbkaieemdaaGreatDoor
open Go.RowKit Go.Gb
def Row4 (w:World) (g cap:Nat) (zs:List Nat):Prop:=∃ cur:Array Value,w.heap[g]? = some (.cells cur 95 (0,0))∧cur.size=cap∧zs.length≤cap∧cur.toList.take zs.length=cls .u32 zs
theorem Row4.lt {w:World}{g cap:Nat}{zs:List Nat}(h:Row4 w g cap zs):g<w.heap.size:=by
 obtain⟨cur,h1,_⟩:=h;exact(Array.getElem?_eq_some_iff.1 h1).1
theorem Row4.le {w:World}{g cap:Nat}{zs:List Nat}(h:Row4 w g cap zs):zs.length≤cap:=by
 obtain⟨cur,_,_,h3,_⟩:=h;exact h3
theorem Row4.cell {w:World}{g cap:Nat}{zs:List Nat}(h:Row4 w g cap zs){i:Nat}(hi:i<zs.length):w.cell? ⟨g,i,none⟩=some (.int .u32 ((zs.getD i 0:Nat):Int)):=by
 obtain⟨cur,h1,h2,h3,h4⟩:=h;have h5:=jK (k:=.u32) hi;rw[← h4,List.getElem?_take,if_pos hi]at h5;simp only[World.cell?,h1];simpa using h5
theorem Row4.free {w:World}{g cap:Nat}{zs:List Nat}(h:Row4 w g cap zs)(i:Nat):w.frozen? ⟨g,i,none⟩=false:=by
 obtain⟨cur,h1,h2,h3,h4⟩:=h;simp only[World.frozen?,h1];simp
theorem Row4.set {w:World}{g cap:Nat}{zs:List Nat}(h:Row4 w g cap zs)(i v:Nat):Row4 (w.setCell ⟨g,i,none⟩ (.int .u32 ((v:Nat):Int))) g cap (zs.set i v):=by
 obtain⟨cur,h1,h2,h3,h4⟩:=h;refine⟨cur.setIfInBounds i (.int .u32 (v:Int)),?_,by simp[h2],by simpa using h3,?_⟩
 · simp only[World.setCell,Array.getElem?_modify,h1]
   simp
 · rw[List.length_set,ry,← h4,Array.toList_setIfInBounds,List.take_set]
theorem Row4.aside {w:World}{g cap k i:Nat}{zs:List Nat}{v:Value}(h:Row4 w g cap zs)(hne:g≠k):Row4 (w.setCell ⟨k,i,none⟩ v) g cap zs:=by
 obtain⟨cur,h1,h2,h3,h4⟩:=h;exact⟨cur,by rw[Below.heap_setCell _ _ _ _ hne];exact h1,h2,h3,h4⟩
theorem Row4.below {w w':World}{g cap:Nat}{zs:List Nat}(h:Row4 w g cap zs)(hb:Below w.heap.size w w'):Row4 w' g cap zs:=by
 obtain⟨cur,h1,h2,h3,h4⟩:=h;exact⟨cur,by rw[hb.block g (Array.getElem?_eq_some_iff.1 h1).1];exact h1,h2,h3,h4⟩
theorem Row4.drewN {w:World}{g cap:Nat}{zs:List Nat}(h:Row4 w g cap zs)(n:Nat):Row4 (w.drewN n) g cap zs:=h
theorem Row4.take {w:World}{g cap:Nat}{zs:List Nat}(h:Row4 w g cap zs)(m:Nat)(hm:m≤zs.length):Row4 w g cap (zs.take m):=by
 obtain⟨cur,h1,h2,h3,h4⟩:=h;refine⟨cur,h1,h2,by simp;omega,?_⟩;rw[mV,← h4,List.take_take,List.length_take,Nat.min_eq_left hm]
theorem Row4.own {w:World}{g cap B:Nat}{zs:List Nat}(h:Row4 w g cap zs)(hB:B≤g)(hm:cap≤maxLen):Own .u32 95 B w (.slice (some ⟨g,0,none⟩) zs.length cap) zs:=by
 obtain⟨cur,h1,h2,h3,h4⟩:=h;refine⟨by simp[cls],Or.inr ⟨g,cap,cur,rfl,hB,h1,h3,hm,by simp[h2],?_⟩⟩;rw[Nat.mul_one];exact h4
theorem Row4.of_own {w:World}{B:Nat}{v:Value}{zs:List Nat}(h:Own .u32 95 B w v zs)(hp:0<zs.length):∃ g cap,v=.slice (some ⟨g,0,none⟩) zs.length cap∧B≤g∧cap≤maxLen∧Row4 w g cap zs:=by
 obtain⟨h1,h2⟩:=h;rcases h2 with⟨h2,h3⟩|⟨g,cap,cur,hv,hg,hh,hn,hc,hs,ht⟩
 · omega
 · rw[Nat.mul_one]at hs ht
   exact⟨g,cap,hv,hg,hc,cur,hh,hs,hn,ht⟩
end Go.Proofs.YteihfbkaieemdaaGreatDoor
namespace Go.Proofs.YteihfbkaieemdaaGreatDoor
open Go.RowKit
abbrev CL (f : FuncId) (args : Array Value) (v : Value) : Prop := ∀ W, La W → Calls Tryz.prog f args W fun e w' => e = .returned v ∧ Below W.heap.size W w'
end Go.Proofs.YteihfbkaieemdaaGreatDoor
namespace Go.Proofs.YteihfbkaieemdaaGreatDoor
open Go.RowKit Go.Gb
theorem index_hit (c:UInt8)(a b:List UInt8)(h:c∉a):Lib.index (a++c :: b) [c]=a.length:=by
 refine Lib.index_first (by simp) ?_ ?_
 · simp[Lib.occAt,List.isPrefixOf]
 · intro j hj
   unfold Lib.occAt
   rw[List.drop_append_of_le_length (by omega)]
   cases hd:a.drop j with
   | nil=>exact absurd (List.drop_eq_nil_iff.1 hd) (by omega)
   | cons x t =>
     have hx:x∈a:=List.mem_of_mem_drop (hd▸List.mem_cons_self);have h1:¬ c=x:=by rintro rfl;exact h hx
     simp[List.isPrefixOf,h1]
theorem pM (c:UInt8):∀ l:List UInt8,c∉l→Lib.index l [c] = -1
 | [],_=>rfl
 | x :: l,h=>by
   have h1:¬ c=x:=by rintro rfl;exact h List.mem_cons_self
   have h2:=pM c l (fun hm=>h (List.mem_cons_of_mem _ hm));unfold Lib.index
   rw[h2];simp[List.isPrefixOf,h1]
theorem z0G (c:UInt8)(a b:List UInt8)(h:c∉a):Lib.cut (a++c :: b) [c]=(a,b,true):=by
 unfold Lib.cut
 rw[index_hit c a b h,if_pos (by omega)];simp
theorem xy (c:UInt8)(l:List UInt8)(h:c∉l):Lib.cut l [c]=(l,[],false):=by
 unfold Lib.cut
 rw[pM c l h];rfl
theorem nV (c:UInt8)(l:List UInt8):(c∉l∧Lib.cut l [c]=(l,[],false))∨∃ a b,c∉a∧l=a++c :: b∧Lib.cut l [c]=(a,b,true):=by
 by_cases h:c∈l
 · obtain⟨a,b,e,hn⟩:=List.eq_append_cons_of_mem h
   exact Or.inr ⟨a,b,hn,e,by rw[e];exact z0G c a b hn⟩
 · exact Or.inl ⟨h,xy c l h⟩
theorem z0D (c:UInt8)(hc:isD c=false)(n:Nat):c∉Lib.decDigits n:=by
 intro h;have:=List.all_eq_true.1 (jf n) c h;rw[hc]at this;cases this
theorem z1f (c:UInt8)(hc:isD c=false)(h45:c≠45)(z:Int):c∉(Sz z).data.toList:=by
 rcases cK z with⟨n,hn,rfl⟩|rfl|⟨n,hn,rfl⟩
 · rw[jq hn]
   intro h;rcases List.mem_cons.1 h with h|h
   · exact h45 h
   · exact z0D c hc n h
 · rw[show Sz 0=Sn 0 from dW 0,di];exact z0D c hc 0
 · rw[dW,di];exact z0D c hc n
def Sq (q:Rat):ByteArray:=if q.den=1 then Sz q.num else ⟨((Sz q.num).data.toList++47 :: Lib.decDigits q.den).toArray⟩
theorem jr {q:Rat}(h:q.den=1):Sq q=Sz q.num:=by unfold Sq;rw[if_pos h]
theorem qm {q:Rat}(h:q.den≠1):Sq q=⟨((Sz q.num).data.toList++47 :: Lib.decDigits q.den).toArray⟩:=by unfold Sq;rw[if_neg h]
theorem ig {q:Rat}(h:q.den≠1):(Sq q).data.toList=(Sz q.num).data.toList++47 :: Lib.decDigits q.den:=by rw[qm h]
theorem wF (z:Int):Sq (Rat.ofInt z)=Sz z:=jr rfl
theorem xz {q:Rat}(h:q.den≠1):Lib.cut (Sq q).data.toList [47]=((Sz q.num).data.toList,Lib.decDigits q.den,true):=by
 rw[ig h];exact z0G 47 _ _ (z1f 47 (by decide) (by decide) _)
theorem z0F (z:Int):Lib.cut (Sz z).data.toList [47]=((Sz z).data.toList,[],false):=xy 47 _ (z1f 47 (by decide) (by decide) _)
def vldP (n d:List UInt8):Bool:=vldZ n&&vldZ d && !(d==[49])&&decide (1≤zval d)&&(Nat.gcd (zval n).natAbs (zval d).natAbs==1)
def vldQ (l:List UInt8):Bool:=if (Lib.cut l [47]).2.2 then vldP (Lib.cut l [47]).1 (Lib.cut l [47]).2.1 else vldZ l
def qval (l:List UInt8):Rat:=if (Lib.cut l [47]).2.2 then mkRat (zval (Lib.cut l [47]).1) (zval (Lib.cut l [47]).2.1).toNat else Rat.ofInt (zval l)
theorem z2L {l:List UInt8}(h:vldZ l=true):(Sz (zval l)).data.toList=l:=by
 have h1:=zh (a:=⟨l.toArray⟩) (by simpa using h);have h2:=congrArg (fun b:ByteArray=>b.data.toList) h1;simpa using h2.symm
theorem z2p {l:List UInt8}(h:vldZ l=true)(h1:1≤zval l):l=Lib.decDigits (zval l).toNat:=by
 have h2:=z2L h;obtain⟨n,hn⟩:∃ n:Nat,zval l=n:=⟨(zval l).toNat,by omega⟩;rw[hn,dW,di]at h2;rw[hn,Int.toNat_natCast,h2]
theorem yc (z:Int)(n:Nat)(hn:n≠0)(hg:Nat.gcd z.natAbs n=1):(mkRat z n).num=z∧(mkRat z n).den=n:=by
 have h:=jR z n hn;rw[hg]at h;simpa using h
theorem z3t {a:ByteArray}(h:vldQ a.data.toList=true):a=Sq (qval a.data.toList):=by
 cases a with
 | mk d =>
   simp only at h ⊢;obtain⟨l,rfl⟩:∃ l:List UInt8,d=l.toArray:=⟨d.toList,rfl⟩;simp only at h ⊢;rcases nV 47 l with⟨_,e⟩|⟨x,y,_,el,e⟩
   · unfold vldQ at h
     unfold qval
     rw[e]at h ⊢;simp only[Bool.false_eq_true,if_false]at h ⊢;rw[wF];have h2:=zh (a:=⟨l.toArray⟩) (by simpa using h);simpa using h2
   · unfold vldQ at h
     unfold qval
     rw[e]at h ⊢;simp only[if_true]at h ⊢;unfold vldP at h
     simp only[Bool.and_eq_true,decide_eq_true_eq,Bool.not_eq_true',beq_iff_eq]at h;obtain⟨⟨⟨⟨h1,h2⟩,h3⟩,h4⟩,h5⟩:=h;have hy:=z2p h2 h4;have hx:=z2L h1;obtain⟨m,hm⟩:∃ m:Nat,zval y=m:=⟨(zval y).toNat,by omega⟩;rw[hm]at h4 h5 hy ⊢;rw[Int.toNat_natCast]at hy ⊢;rw[Int.natAbs_natCast]at h5;obtain⟨p1,p2⟩:=yc (zval x) m (by omega) h5
     have hm1:m≠1:=by
        intro h6;subst h6;rw[Lib.decDigits_one (by decide)]at hy;rw[hy]at h3;simp at h3
     rw[qm (by rw[p2];exact hm1),p1,p2,hx,← hy,el]
theorem z2N (q:Rat):qval (Sq q).data.toList=q:=by
 unfold qval
 by_cases h:q.den=1
 · rw[jr h,z0F]
   simp only[Bool.false_eq_true,if_false];rw[wC];exact Rat.ext rfl h.symm
 · rw[xz h]
   simp only[if_true];rw[wC,mO,Int.toNat_natCast];exact Rat.mkRat_self q
theorem zn (q:Rat):(Sq q).toList=(Sq q).data.toList:=toList_data _
theorem zm {x y:Rat}(h:x≠y):((Sq x).toList==(Sq y).toList)=false:=by
 rw[beq_eq_false_iff_ne,zn,zn];intro h2;apply h
 rw[← z2N x,← z2N y,h2]
def SmQ (k:Nat) (q:Rat):Prop:=Sm k q.num.natAbs∧Sm k q.den
def aS (q:Rat):Prop:=SmQ 900 q
theorem SmQ.mono {k l:Nat}{q:Rat}(h:SmQ k q)(hkl:k≤l):SmQ l q:=⟨h.1.mono hkl,h.2.mono hkl⟩
theorem SmQ.fit {k:Nat}{q:Rat}(h:SmQ k q)(hk:k≤900):aS q:=SmQ.mono h hk
theorem SmQ.neg {k:Nat}{q:Rat}(h:SmQ k q):SmQ k (-q):=by
 obtain⟨e1,e2⟩:=z00 q;unfold SmQ
 rw[e1,e2,Int.natAbs_neg];exact h
theorem z1H (z:Int)(n:Nat)(hn:n≠0):(mkRat z n).num.natAbs≤z.natAbs∧(mkRat z n).den≤n:=by
 obtain⟨e1,e2⟩:=jR z n hn;rw[e1,e2];exact⟨Int.natAbs_ediv_le_natAbs _ _,Nat.div_le_self _ _⟩
theorem z2P {k:Nat}{z:Int}{n:Nat}(hn:n≠0)(h1:Sm k z.natAbs)(h2:Sm k n):SmQ k (mkRat z n):=by
 obtain⟨e1,e2⟩:=z1H z n hn;exact⟨h1.le e1,h2.le e2⟩
theorem iV (x y:Rat):x.den*y.den≠0:=Nat.mul_ne_zero x.den_nz y.den_nz
theorem SmQ.add {k l:Nat}{x y:Rat}(hx:SmQ k x)(hy:SmQ l y):SmQ (k+l+1) (x+y):=by
 rw[jN];refine z2P (iV x y) ?_ ((hx.2.mul hy.2).mono (by omega));refine Sm.le ?_ (Int.natAbs_add_le _ _);rw[Int.natAbs_mul,Int.natAbs_mul,Int.natAbs_natCast,Int.natAbs_natCast];exact Sm.add (hx.1.mul hy.2) ((hy.1.mul hx.2).mono (by omega))
theorem SmQ.sub {k l:Nat}{x y:Rat}(hx:SmQ k x)(hy:SmQ l y):SmQ (k+l+1) (x-y):=by
 rw[Rat.sub_eq_add_neg];exact hx.add hy.neg
theorem SmQ.mul {k l:Nat}{x y:Rat}(hx:SmQ k x)(hy:SmQ l y):SmQ (k+l) (x*y):=by
 rw[jC];refine z2P (iV x y) ?_ (hx.2.mul hy.2);rw[Int.natAbs_mul];exact hx.1.mul hy.1
theorem SmQ.inv {k:Nat}{x:Rat}(hx:SmQ k x)(h0:x≠0):SmQ k x⁻¹:=by
 have hn:x.num≠0:=fun h=>h0 (Rat.num_eq_zero.1 h);rcases Int.lt_or_gt_of_ne hn with h|h
 · obtain⟨e1,e2⟩:=mU h
   unfold SmQ
   rw[e1,Int.natAbs_neg,Int.natAbs_natCast,show(x⁻¹).den=x.num.natAbs by omega];exact⟨hx.2,hx.1⟩
 · obtain⟨e1,e2⟩:=qN h
   unfold SmQ
   rw[e1,Int.natAbs_natCast,show(x⁻¹).den=x.num.natAbs by omega];exact⟨hx.2,hx.1⟩
theorem SmQ.div {k l:Nat}{x y:Rat}(hx:SmQ k x)(hy:SmQ l y)(h0:y≠0):SmQ (k+l) (x / y):=by
 rw[Rat.div_def];exact hx.mul (hy.inv h0)
theorem jv {z:Int}{k:Nat}(h:(Sz z).size≤k):Sm k z.natAbs:=by
 rcases cK z with⟨n,hn,rfl⟩|rfl|⟨n,hn,rfl⟩
 · rw[Int.natAbs_neg,Int.natAbs_natCast]
   rw[jq hn]at h
   have h1:=Sm.of (a:=Sn n) (k:=k) (eT n) (by
    have h2:(Sn n).size=(Lib.decDigits n).length:=by rw[← aF,di]
    have h3:(⟨(45 :: Lib.decDigits n).toArray⟩:ByteArray).size=(Lib.decDigits n).length+1:=by simp[ByteArray.size]
    omega)
   rwa [cZ]at h1
 · rw[show Sz 0=Sn 0 from dW 0]at h
   have h1:=Sm.of (a:=Sn 0) (k:=k) (eT 0) h;rwa [cZ]at h1
 · rw[Int.natAbs_natCast]
   rw[dW]at h;have h1:=Sm.of (a:=Sn n) (k:=k) (eT n) h;rwa [cZ]at h1
theorem zx {q:Rat}{k:Nat}(h:(Sq q).size≤k)(hk:0<k):SmQ k q:=by
 by_cases h1:q.den=1
 · rw[jr h1]at h
   refine⟨jv h,?_⟩;rw[h1];exact Nat.one_lt_pow (by omega) (by decide)
 · have h2:(Sq q).size=(Sz q.num).size+1+(Sn q.den).size:=by
    rw[← aF,ig h1,← aF,← aF,di];simp;omega
   refine⟨jv (by omega),?_⟩;have h3:=Sm.of (a:=Sn q.den) (k:=k) (eT _) (by omega);rwa [cZ]at h3
theorem aS.num {q:Rat}(h:aS q):FitZ q.num:=by unfold FitZ Fit;exact Sm.mono (k:=900) h.1 (by decide)
theorem aS.den {q:Rat}(h:aS q):Fit q.den:=by unfold Fit;exact Sm.mono (k:=900) h.2 (by decide)
theorem ku {z:Int}{k:Nat}(h:Sm k z.natAbs)(hk:0<k):(Sz z).size≤k+1:=by
 rcases cK z with⟨n,hn,rfl⟩|rfl|⟨n,hn,rfl⟩
 · rw[Int.natAbs_neg,Int.natAbs_natCast]at h
   have h1:=iH h hk;have h2:(Sn n).size=(Lib.decDigits n).length:=by rw[← aF,di]
   have h3:(Sz (-(n:Int))).size=(Lib.decDigits n).length+1:=by rw[jq hn];simp[ByteArray.size]
   omega
 · have h1:=iH h hk
   rw[show Sz 0=Sn 0 from dW 0];simp at h1
   omega
 · rw[Int.natAbs_natCast]at h
   have h1:=iH h hk;rw[dW];omega
theorem zl {q:Rat}{k:Nat}(h:SmQ k q)(hk:0<k):(Sq q).size≤k+1+1+k:=by
 have h1:=ku h.1 hk;have h2:=iH h.2 hk;by_cases h3:q.den=1
 · rw[jr h3];omega
 · have h4:(Sq q).size=(Sz q.num).size+1+(Sn q.den).size:=by
    rw[← aF,ig h3,← aF,← aF,di];simp;omega
   omega
theorem pI {n:Nat}(h:n<10^18):Lib.parseIntB 64 (Lib.decDigits n)=.ok (n:Int):=by
 have hl:(Lib.decDigits n).length≤18:=qZ 18 n h (by decide);have hp:=nE (Lib.decDigits n) (ny n) (by omega);rw[gD]at hp;obtain⟨c,t,hd,hc⟩:=jT (n:=n);have hD:isD c=true:=List.all_eq_true.1 (jf n) c (by rw[hd];exact List.mem_cons_self);have hD':=(fF c).1 hD;rw[hd]at hp ⊢;unfold Lib.parseIntB
 have h1:¬ c.toNat=43:=by omega
 have h2:¬ c.toNat=45:=by omega
 simp only[h1,h2,or_self,if_false,hp]
 have h3:¬ (2^(64-1)≤n):=by
  have:(10:Nat)^18<2^(64-1):=by decide
  omega
 simp[h3]
theorem xZ {n:Nat}(h:n<10^18):Lib.parseIntB 64 (45 :: Lib.decDigits n)=.ok (-(n:Int)):=by
 have hl:(Lib.decDigits n).length≤18:=qZ 18 n h (by decide);have hp:=nE (Lib.decDigits n) (ny n) (by omega);rw[gD]at hp;unfold Lib.parseIntB
 have e:(45:UInt8).toNat=45:=rfl;simp only[e,or_true,if_true,hp]
 have h3:¬ (2^(64-1)<n):=by
  have:(10:Nat)^18<2^(64-1):=by decide
  omega
 simp[h3]
theorem z1B {z:Int}(h:(Sz z).size≤18):Lib.parseIntB 64 (Sz z).data.toList=.ok z:=by
 have hs:=jv h;rcases cK z with⟨n,hn,rfl⟩|rfl|⟨n,hn,rfl⟩
 · rw[Int.natAbs_neg,Int.natAbs_natCast]at hs
   rw[jq hn];exact xZ hs
 · rw[show Sz 0=Sn 0 from dW 0,di]
   exact pI (by decide)
 · rw[Int.natAbs_natCast]at hs
   rw[dW,di];exact pI hs
theorem z0c (z:Int):(⟨(Lib.itoa z).toArray⟩:ByteArray)=Sz z:=by
 unfold Lib.itoa Sz
 split
 · rfl
 · unfold Sn
   rw[show z.toNat=z.natAbs by omega]
set_option maxRecDepth 100000
set_option maxHeartbeats 20000000
open Go.Lib (hid)
theorem z0z (B g F S P Q a b c d f s:Nat)(n:Bool)(hm:Made a b c d true F S f s)(hf:Fac a b c d)(hd9:d≤1000000000)(hlF:(aa F).length≤80000)(hlS:(aa S).length≤80000)(hlP:(aa P).length≤80000)(hlQ:(aa Q).length≤80000)(w:World)(h:EuSt B w g F S P Q n)(hB:B≤w.heap.size) :
 Calls Tryz.prog 210 #[.pointer (some ⟨g,0,none⟩),.agg #[.int .u64 (a:Int),.int .u64 (b:Int),.int .u64 (c:Int),.int .u64 (d:Int),.bool true]] w fun e w'=>e=.returned (.tuple #[])∧Hid (EuSt B w' g f s (a*P+b*Q) (c*P+d*Q) (n != true))∧Below B w w':=by
 obtain⟨ha9,hb9,hc9⟩:=hf.le hd9 (by omega);obtain⟨vf,vs,vp,vq,hE,hBg,h4⟩:=h;obtain⟨e1,e2⟩:=hm.odd;obtain ⟨HE1,HE2,HBg,HB⟩:=aH e1 e2 hBg hB;have hw0:=(Below.refl w.heap.size w).alloc (Nat.le_refl _) (.cells #[.int .u64 (a:Int),.int .u64 (b:Int),.int .u64 (c:Int),.int .u64 (d:Int),.bool true] 203);obtain ⟨HEb,H4,HS,HW⟩:=aH (hE.below hw0) (h4.below hw0) (kK w a b c d true) (hw0.mono hB);have HZ:=hid (show B≤(w.alloc (.cells #[.int .u64 (a:Int),.int .u64 (b:Int),.int .u64 (c:Int),.int .u64 (d:Int),.bool true] 203)).heap.size by rw[World.size_alloc];omega);clear hm hf e1 e2 hBg hB hw0 hE h4;obtain⟨s0,s1,s2,s3,s4⟩:=bI HS.o;obtain⟨k,hk⟩:∃ k,k=w.heap.size:=⟨_,rfl⟩;rw[← hk]at HS s0 s1 s2 s3 s4;have HK:=hid hk;go_enter Tryz.func210,Tryz.ntmps210
 go_upto_region 1 with fail
 rw[← hk];clear hk;generalize w.alloc (.cells #[.int .u64 (a:Int),.int .u64 (b:Int),.int .u64 (c:Int),.int .u64 (d:Int),.bool true] 203)=w0 at *;go_wp2;go_quiet (fail)
 have HEb:=hid (show Eb (w0.drewN nq) g vf vs vp vq n from HEb.o);have H4:=hid (show St4 B (w0.drewN nq) vf vs vp vq F S P Q from H4.o.kp ((Kp.refl (fun _=>False) w0).drewN nq) (fun _ _ h=>h));have HS:=hid (show Sb (w0.drewN nq) k a b c d true from HS.o);have HW:=hid (show Below B w (w0.drewN nq) from below_drewN' HW.o nq);have HZ:=hid (show B≤(w0.drewN nq).heap.size from HZ.o);clear s0 s1 s2 s3 s4;generalize w0.drewN nq=w1 at *
 have HBl:=hid (jL B vp vq (aa P) (aa Q) a b c d (a*P+b*Q) (c*P+d*Q) w1.drew (by omega) (by omega) (by omega) (by omega) (by omega) (by omega) (by omega) (by omega)
  (aV _) (aV _) (by omega) (by omega) (by rw[aA,aA,Int.natCast_add,Int.natCast_mul,Int.natCast_mul]) (by rw[aA,aA,Int.natCast_add,Int.natCast_mul,Int.natCast_mul]) H4.o.p H4.o.q H4.o.pq HZ.o)
 obtain⟨c0,c1,c2,c3,c4⟩:=HEb.o.cells;go_upto_region 2 with fail
 go_cut [20] (fun _ wx=>∃ vp vq:Value,Hid (Eb wx g vf vs vp vq n)∧Hid (St4 B wx vf vs vp vq F S (a*P+b*Q) (c*P+d*Q))∧Hid (Sb wx k a b c d true)∧Hid (Below B w wx))
 case first =>
  go_region_with (go_at_call 230;go_must (refine HBl.o.mono ?_;rintro e w2 ⟨u1,u2,rfl,o1,o2,ap,n1,n2,hk⟩;obtain⟨r1,r2,r3,r4⟩:=H4.o.blendPQ HEb.o HS.o HZ.o o1 o2 ap n1 n2 (Kp.undrew hk);obtain⟨x1,y1,rfl⟩:=aY o1.rd;obtain⟨x2,y2,rfl⟩:=aY o2.rd;have R1:=hid r1;have R2:=hid r2;have R3:=hid r3;have R4:=hid r4;obtain⟨d0,d1,d2,d3,d4⟩:=r2.cells;have f2:=r2.free 2;have f3:=r2.free 3;clear o1 o2 ap n1 n2 hk r1 r2 r3 r4))
  all_goals
   have K:=(gV (w:=w2) g 2 (.slice x1 (aa (a*P+b*Q)).length y1)).trans (gV g 3 (.slice x2 (aa (c*P+d*Q)).length y2)) (fun _ _ h=>h);have E':=hid (R2.o.set23 (.slice x1 (aa (a*P+b*Q)).length y1) (.slice x2 (aa (c*P+d*Q)).length y2));have L':=hid (R1.o.stored R2.o K);have S':=hid (xQ R3.o K (fun e=>jI R2.o R3.o e.symm));have W':=hid (HW.o.trans (R4.o.trans (K.below (Nat.le_trans HZ.o R4.o.size) (fun _ e=>e▸HBg.o))));clear d0 d1 d2 d3 d4 f2 f3 K;go_wp2_with fail
   go_meet
   exact⟨_,_,E',L',S',W'⟩
 case rest =>
  clear HEb H4 HS HW HZ c0 c1 c2 c3 c4 HBl;obtain⟨vp,vq,HEb,H4,HS,HW⟩:=hcut;have HZ:=hid (Nat.le_trans HB.o HW.o.size)
  have HBl:=hid (jL B vf vs (aa F) (aa S) (-(a:Int)) ((b:Int)) ((c:Int)) (-(d:Int)) f s wc.drew (by omega) (by omega) (by omega) (by omega) (by omega) (by omega) (by omega) (by omega)
   (aV _) (aV _) (by omega) (by omega) (by rw[aA,aA];exact HE1.o) (by rw[aA,aA];exact HE2.o) H4.o.f H4.o.s H4.o.fs HZ.o)
  obtain⟨c0,c1,c2,c3,c4⟩:=HEb.o.cells;obtain⟨s0,s1,s2,s3,s4⟩:=bI HS.o;have v1:IntKind.i64.wrap (-(a:Int)) = -(a:Int):=IntWalk.i64_in _ (by omega);have v2:IntKind.i64.wrap (-(b:Int)) = -(b:Int):=IntWalk.i64_in _ (by omega);have v3:IntKind.i64.wrap (-(c:Int)) = -(c:Int):=IntWalk.i64_in _ (by omega);have v4:IntKind.i64.wrap (-(d:Int)) = -(d:Int):=IntWalk.i64_in _ (by omega);have v5:IntKind.i64.wrap (b:Int)=(b:Int):=IntWalk.i64_in _ (by omega);have v6:IntKind.i64.wrap (c:Int)=(c:Int):=IntWalk.i64_in _ (by omega);go_upto_region 5 with fail
  go_cut [52] (fun _ wx=>∃ vf vs:Value,Hid (Eb wx g vf vs vp vq n)∧Hid (St4 B wx vf vs vp vq f s (a*P+b*Q) (c*P+d*Q))∧Hid (Sb wx k a b c d true)∧Hid (Below B w wx))
  case first =>
   go_region_with (go_at_call 230;go_must (refine HBl.o.mono ?_;rintro e w2 ⟨u1,u2,rfl,o1,o2,ap,n1,n2,hk⟩;obtain⟨r1,r2,r3,r4⟩:=H4.o.blendFS HEb.o HS.o HZ.o o1 o2 ap n1 n2 (Kp.undrew hk);obtain⟨x1,y1,rfl⟩:=aY o1.rd;obtain⟨x2,y2,rfl⟩:=aY o2.rd;have R1:=hid r1;have R2:=hid r2;have R3:=hid r3;have R4:=hid r4;obtain⟨d0,d1,d2,d3,d4⟩:=r2.cells;have f0:=r2.free 0;have f1:=r2.free 1;clear o1 o2 ap n1 n2 hk r1 r2 r3 r4))
   all_goals
        have K:=(gV (w:=w2) g 0 (.slice x1 (aa f).length y1)).trans (gV g 1 (.slice x2 (aa s).length y2)) (fun _ _ h=>h);obtain ⟨E',L'⟩:=aD (R2.o.set01 (.slice x1 (aa f).length y1) (.slice x2 (aa s).length y2)) (R1.o.stored R2.o K);have S':=hid (xQ R3.o K (fun e=>jI R2.o R3.o e.symm));have W':=hid (HW.o.trans (R4.o.trans (K.below (Nat.le_trans HZ.o R4.o.size) (fun _ e=>e▸HBg.o))));clear d0 d1 d2 d3 d4 f0 f1 K;go_wp2_with fail
        go_meet
        exact⟨_,_,E',L',S',W'⟩
  case rest =>
   clear HEb H4 HS HW HZ c0 c1 c2 c3 c4 HBl s0 s1 s2 s3 s4 v1 v2 v3 v4 v5 v6;obtain⟨vf,vs,HEb,H4,HS,HW⟩:=hcut;obtain⟨c0,c1,c2,c3,c4⟩:=HEb.o.cells;obtain⟨s0,s1,s2,s3,s4⟩:=bI HS.o;have f4:=HEb.o.free 4;go_wp2;go_region
   all_goals
        clear c0 c1 c2 c3 c4 s0 s1 s2 s3 s4 f4;go_wp2;go_end0
        have K:Kp (fun k=>k=g) wc (wc.setCell ⟨g,4,none⟩ (.bool (!n))).drew:=(gV g 4 (.bool (!n))).drew;refine⟨rfl,⟨vf,vs,vp,vq,?_,HBg.o,H4.o.stored HEb.o K⟩,HW.o.trans (K.below (Nat.le_trans HB.o HW.o.size) (fun _ e=>e▸HBg.o))⟩;have E:=HEb.o.set4 (!n);have e:(n != true)=(!n):=by cases n<;>rfl
        rw[e];exact E
open Go.ChangeShapes Go.WideShapes Go.ChangeAt Go.WideMaps Go.WideElems Go.RowKit
theorem z3S:Tryz.prog.globalNamed "garboard/integer.zero" = some 0:=by kernel_rfl
theorem z0k:(Tryz.prog.globals[0]?).map (·.type)=some 160:=by kernel_rfl
def jE:List (String × DataW Unit):=[("math/bits.deBruijn32tab",Rows.laid_math_bits_deBruijn32tab),("math/bits.deBruijn64tab",Rows.laid_math_bits_deBruijn64tab),("internal/strconv.uint64pow10",Rows.laid_internal_strconv_uint64pow10),("strconv.ErrRange",Rows.laid_strconv_ErrRange),("strconv.ErrSyntax",Rows.laid_strconv_ErrSyntax),("garboard/integer.zero",Rows.laid_garboard_integer_zero)]
theorem yg {W:World}(h:laidMetH Tryz.prog jE W):La W:=by
 rw[MakeChecks.laidMetH_plain _ _ _ (by kernel_rfl)]at h;obtain⟨ps,⟨g0,t0,cs0,f0,p0,q0,hg0,ht0,hv0,hd0,⟨g1,t1,cs1,f1,p1,q1,hg1,ht1,hv1,hd1,⟨g2,t2,cs2,f2,p2,q2,hg2,ht2,hv2,hd2,⟨g3,t3,cs3,f3,p3,q3,hg3,ht3,hv3,hd3,⟨g4,t4,cs4,f4,p4,q4,hg4,ht4,hv4,hd4,⟨g5,t5,cs5,f5,p5,q5,hg5,ht5,hv5,hd5,_,_⟩,_⟩,_⟩,_⟩,_⟩,_⟩,_,_⟩:=h;obtain rfl:=Option.some.inj (gTab.symm.trans hg2);obtain rfl:=Option.some.inj (xm.symm.trans ht2);obtain rfl:=Option.some.inj (z3S.symm.trans hg5);obtain rfl:=Option.some.inj (z0k.symm.trans ht5);refine⟨?_,?_⟩
 · unfold Tb Lib.TabIs
   rw[hv2];congr 1
   apply Array.ext'
   rw[Lib.cells_of_tab (k:=.u64) (zs:=Lib.pow10Tab) Tryz.underlying185 Tryz.underlying131 xB xC hd2]
 · obtain⟨k0,k1,hu,e0,o0,e1,o1⟩:∃ k0 k1:Field,Tryz.prog.underlying 160=some (.struct #[k0,k1])∧k0.type=3∧k0.offset=0∧k1.type=9∧k1.offset=1:=⟨_,_,Tryz.underlying160,rfl,rfl,rfl,rfl⟩
   obtain⟨y0,y1,n,hx,hlen,h0,h1⟩:=trod_struct2 hu hd5;rw[e0,o0]at h0;rw[e1,o1]at h1;obtain⟨m,hc0,hy0,_⟩:=DataW.trod_int Tryz.underlying3 h0;obtain⟨s,hc1,hy1,_⟩:=DataW.trod_string Tryz.underlying9 h1;subst hy0 hy1;have hc:Tryz.prog.cellsOf 160=2:=by kernel_rfl
   have hci:Tryz.prog.cellsOf 3=1:=by kernel_rfl
   have hcs:Tryz.prog.cellsOf 9=1:=by kernel_rfl
   rw[hc]at hlen;rw[hci]at hc0;rw[hcs]at hc1
   have hd:m=0∧s.data.toList=[48]:=by
    have:=congrArg Prod.fst hx;simpa [Rows.laid_garboard_integer_zero,eq_comm] using this
   obtain⟨rfl,hs⟩:=hd
   have hs':s=⟨#[48]⟩:=by
    cases s with
    | mk d=>exact congrArg ByteArray.mk (Array.ext' hs)
   subst hs'
   have hl:cs5.toList=[.int .i64 0,.string ⟨#[48]⟩]:=by
    match hcs5:cs5.toList,hlen with
    | [a,b],_ =>
      rw[hcs5]at hc0 hc1;simp at hc0 hc1
      rw[hc0,hc1]
   have g0':=World.var?_cell z3S hv5 0;have g1':=World.var?_cell z3S hv5 1;have ha:cs5=#[.int .i64 0,.string ⟨#[48]⟩]:=Array.ext' hl;rw[ha]at g0' g1';have c0:W.cell? ⟨0,0,none⟩=some (.int .i64 0):=by simpa using g0'
   have c1:W.cell? ⟨0,1,none⟩=some (.string ⟨#[48]⟩):=by simpa using g1'
   exact⟨World.block_lt_of_cell? W _ c0,c0,c1⟩
theorem z0A (os:Os)(args:Array Value):laidMetH Tryz.prog jE ((World.doorLaid Tryz.prog 4000 os).forCall (fun _ _=>0) ⟨#[],args,[]⟩).memory:=by
 rw[MakeChecks.laidMetH_plain _ _ _ (by kernel_rfl)];exact laidMet_of_run' 8 (by kernel_rfl) (by kernel_rfl)
end Go.Proofs.YteihfbkaieemdaaGreatDoor
set_option maxRecDepth 100000
set_option maxHeartbeats 20000000
namespace Go.Proofs.YteihfbkaieemdaaGreatDoor
open Go.ChangeShapes Go.WideShapes Go.ChangeAt Go.WideMaps Go.WideElems Go.RowKit Go.Gb Go.Joins
open Go.ChangeMaps (open_string shut_string)
theorem zX {H:Type}{enc:TypeId × Value→H}{W:World}{base b0:Nat}{spare:Nat→Bool}{held:Bool}{r:Reach}{v:Value}{d:DataW H}{p:List MemPlace}
 (hv:Value.okWide Tryz.prog W r b0 24 v) (h:DataW.Trod enc Tryz.prog W base spare held 24 v d p) :
 ∃ l u:ByteArray,v=.agg #[.string l,.string u]∧d=.agg [.lit (.string l.data.toList),.lit (.string u.data.toList)]∧p=[]∧l.size≤maxLen∧u.size≤maxLen:=by
 obtain⟨c0,c1,y0,y1,m,rfl,rfl,rfl,hy0,hy1⟩:=open_agg2 Tryz.underlying24 (by kernel_rfl) (by kernel_rfl) hv h;obtain⟨l,e0,rfl,wl⟩:=DataW.trod_string Tryz.underlying22 hy0;obtain⟨u,e1,rfl,wu⟩:=DataW.trod_string Tryz.underlying22 hy1;simp at e0 e1
 subst e0 e1;exact⟨l,u,rfl,rfl,rfl,wl,wu⟩
theorem zB {H:Type}{enc:TypeId × Value→H}{W:World}{base:Nat}{spare:Nat→Bool}{held:Bool}{l u:ByteArray}(hl:l.size≤maxLen)(hu:u.size≤maxLen) :
 DataW.Trod enc Tryz.prog W base spare held 24 (.agg #[.string l,.string u]) (.agg [.lit (.string l.data.toList),.lit (.string u.data.toList)]) [] :=
 shut_agg2 (y0:=(.lit (.string l.data.toList),[])) (y1:=(.lit (.string u.data.toList),[])) Tryz.underlying24 (by kernel_rfl) (by kernel_rfl) ⟨1,by simp[DataW.trod,Tryz.underlying22,hl]⟩ ⟨1,by simp[DataW.trod,Tryz.underlying22,hu]⟩
theorem z2Z {x:Int}(h:(Lit.int .u8 x).wf=true):0≤x∧x≤255:=by
 have h1:IntKind.u8.min≤x∧x≤IntKind.u8.max:=by simpa [Lit.wf] using h
 exact⟨Int.le_trans (show(0:Int)≤IntKind.u8.min by decide) h1.1,Int.le_trans h1.2 (show IntKind.u8.max≤255 by decide)⟩
theorem z3a {x:Int}(h:(Lit.int .u16 x).wf=true):0≤x∧x≤65535:=by
 have h1:IntKind.u16.min≤x∧x≤IntKind.u16.max:=by simpa [Lit.wf] using h
 exact⟨Int.le_trans (show(0:Int)≤IntKind.u16.min by decide) h1.1,Int.le_trans h1.2 (show IntKind.u16.max≤65535 by decide)⟩
