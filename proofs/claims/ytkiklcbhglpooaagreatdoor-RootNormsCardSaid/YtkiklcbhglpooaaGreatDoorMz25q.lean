/- texts -/
import Derived.Lib.CutLaws
import Derived.Test.YtkiklcbhglpooaaGreatDoorMz23q
namespace Go.Proofs.YtkiklcbhglpooaaGreatDoor
open Go.RowKit Go.Gb
theorem index_hit (c:UInt8)(a b:List UInt8)(h:c∉a):Lib.index (a++c :: b) [c]=a.length:=by
 refine Lib.index_first (by simp) ?_ ?_
 · simp[Lib.occAt,List.isPrefixOf]
 · intro j hj
   unfold Lib.occAt
   rw[List.drop_append_of_le_length (by omega)]
   cases hd:a.drop j with
   | nil=>exact absurd (List.drop_eq_nil_iff.1 hd) (by omega)
   | cons x t =>
     have hx:x∈a:=List.mem_of_mem_drop (hd▸List.mem_cons_self);have h1:¬ c=x:=by rintro rfl;exact h hx
     simp[List.isPrefixOf,h1]
theorem q9 (c:UInt8):∀ l:List UInt8,c∉l→Lib.index l [c] = -1
 | [],_=>rfl
 | x :: l,h=>by
   have h1:¬ c=x:=by rintro rfl;exact h List.mem_cons_self
   have h2:=q9 c l (fun hm=>h (List.mem_cons_of_mem _ hm));unfold Lib.index
   rw[h2];simp[List.isPrefixOf,h1]
theorem z1t (c:UInt8)(a b:List UInt8)(h:c∉a):Lib.cut (a++c :: b) [c]=(a,b,true):=by
 unfold Lib.cut
 rw[index_hit c a b h,if_pos (by omega)];simp
theorem xW (c:UInt8)(l:List UInt8)(h:c∉l):Lib.cut l [c]=(l,[],false):=by
 unfold Lib.cut
 rw[q9 c l h];rfl
theorem o5 (c:UInt8)(l:List UInt8):(c∉l∧Lib.cut l [c]=(l,[],false))∨∃ a b,c∉a∧l=a++c :: b∧Lib.cut l [c]=(a,b,true):=by
 by_cases h:c∈l
 · obtain⟨a,b,e,hn⟩:=List.eq_append_cons_of_mem h
   exact Or.inr ⟨a,b,hn,e,by rw[e];exact z1t c a b hn⟩
 · exact Or.inl ⟨h,xW c l h⟩
theorem z1q (c:UInt8)(hc:isD c=false)(n:Nat):c∉Lib.decDigits n:=by
 intro h;have:=List.all_eq_true.1 (jl n) c h;rw[hc]at this;cases this
theorem z1W (c:UInt8)(hc:isD c=false)(h45:c≠45)(z:Int):c∉(Sz z).data.toList:=by
 rcases bT z with⟨n,hn,rfl⟩|rfl|⟨n,hn,rfl⟩
 · rw[jw hn]
   intro h;rcases List.mem_cons.1 h with h|h
   · exact h45 h
   · exact z1q c hc n h
 · rw[show Sz 0=Sn 0 from dC 0,bQ];exact z1q c hc 0
 · rw[dC,bQ];exact z1q c hc n
def Sq (q:Rat):ByteArray:=if q.den=1 then Sz q.num else ⟨((Sz q.num).data.toList++47 :: Lib.decDigits q.den).toArray⟩
theorem jy {q:Rat}(h:q.den=1):Sq q=Sz q.num:=by unfold Sq;rw[if_pos h]
theorem qN {q:Rat}(h:q.den≠1):Sq q=⟨((Sz q.num).data.toList++47 :: Lib.decDigits q.den).toArray⟩:=by unfold Sq;rw[if_neg h]
theorem iD {q:Rat}(h:q.den≠1):(Sq q).data.toList=(Sz q.num).data.toList++47 :: Lib.decDigits q.den:=by rw[qN h]
theorem qM (z:Int):Sq (Rat.ofInt z)=Sz z:=jy rfl
theorem xX {q:Rat}(h:q.den≠1):Lib.cut (Sq q).data.toList [47]=((Sz q.num).data.toList,Lib.decDigits q.den,true):=by
 rw[iD h];exact z1t 47 _ _ (z1W 47 (by decide) (by decide) _)
theorem z1s (z:Int):Lib.cut (Sz z).data.toList [47]=((Sz z).data.toList,[],false):=xW 47 _ (z1W 47 (by decide) (by decide) _)
def vldP (n d:List UInt8):Bool:=vldZ n&&vldZ d && !(d==[49])&&decide (1≤zval d)&&(Nat.gcd (zval n).natAbs (zval d).natAbs==1)
def vldQ (l:List UInt8):Bool:=if (Lib.cut l [47]).2.2 then vldP (Lib.cut l [47]).1 (Lib.cut l [47]).2.1 else vldZ l
def qval (l:List UInt8):Rat:=if (Lib.cut l [47]).2.2 then mkRat (zval (Lib.cut l [47]).1) (zval (Lib.cut l [47]).2.1).toNat else Rat.ofInt (zval l)
theorem z3H {l:List UInt8}(h:vldZ l=true):(Sz (zval l)).data.toList=l:=by
 have h1:=zV (a:=⟨l.toArray⟩) (by simpa using h);have h2:=congrArg (fun b:ByteArray=>b.data.toList) h1;simpa using h2.symm
theorem z3k {l:List UInt8}(h:vldZ l=true)(h1:1≤zval l):l=Lib.decDigits (zval l).toNat:=by
 have h2:=z3H h;obtain⟨n,hn⟩:∃ n:Nat,zval l=n:=⟨(zval l).toNat,by omega⟩;rw[hn,dC,bQ]at h2;rw[hn,Int.toNat_natCast,h2]
theorem yX (z:Int)(n:Nat)(hn:n≠0)(hg:Nat.gcd z.natAbs n=1):(mkRat z n).num=z∧(mkRat z n).den=n:=by
 have h:=jS z n hn;rw[hg]at h;simpa using h
theorem z5g {a:ByteArray}(h:vldQ a.data.toList=true):a=Sq (qval a.data.toList):=by
 cases a with
 | mk d =>
   simp only at h ⊢;obtain⟨l,rfl⟩:∃ l:List UInt8,d=l.toArray:=⟨d.toList,rfl⟩;simp only at h ⊢;rcases o5 47 l with⟨_,e⟩|⟨x,y,_,el,e⟩
   · unfold vldQ at h
     unfold qval
     rw[e]at h ⊢;simp only[Bool.false_eq_true,if_false]at h ⊢;rw[qM];have h2:=zV (a:=⟨l.toArray⟩) (by simpa using h);simpa using h2
   · unfold vldQ at h
     unfold qval
     rw[e]at h ⊢;simp only[if_true]at h ⊢;unfold vldP at h
     simp only[Bool.and_eq_true,decide_eq_true_eq,Bool.not_eq_true',beq_iff_eq]at h;obtain⟨⟨⟨⟨h1,h2⟩,h3⟩,h4⟩,h5⟩:=h;have hy:=z3k h2 h4;have hx:=z3H h1;obtain⟨m,hm⟩:∃ m:Nat,zval y=m:=⟨(zval y).toNat,by omega⟩;rw[hm]at h4 h5 hy ⊢;rw[Int.toNat_natCast]at hy ⊢;rw[Int.natAbs_natCast]at h5;obtain⟨p1,p2⟩:=yX (zval x) m (by omega) h5
     have hm1:m≠1:=by
        intro h6;subst h6;rw[Lib.decDigits_one (by decide)]at hy;rw[hy]at h3;simp at h3
     rw[qN (by rw[p2];exact hm1),p1,p2,hx,← hy,el]
theorem z3J (q:Rat):qval (Sq q).data.toList=q:=by
 unfold qval
 by_cases h:q.den=1
 · rw[jy h,z1s]
   simp only[Bool.false_eq_true,if_false];rw[wX];exact Rat.ext rfl h.symm
 · rw[xX h]
   simp only[if_true];rw[wX,mV,Int.toNat_natCast];exact Rat.mkRat_self q
theorem z00 (q:Rat):(Sq q).toList=(Sq q).data.toList:=toList_data _
theorem pK {x y:Rat}(h:x≠y):((Sq x).toList==(Sq y).toList)=false:=by
 rw[beq_eq_false_iff_ne,z00,z00];intro h2;apply h
 rw[← z3J x,← z3J y,h2]
def SmQ (k:Nat) (q:Rat):Prop:=Sm k q.num.natAbs∧Sm k q.den
def FitQ (q:Rat):Prop:=SmQ 900 q
theorem SmQ.mono {k l:Nat}{q:Rat}(h:SmQ k q)(hkl:k≤l):SmQ l q:=⟨h.1.mono hkl,h.2.mono hkl⟩
theorem SmQ.fit {k:Nat}{q:Rat}(h:SmQ k q)(hk:k≤900):FitQ q:=SmQ.mono h hk
theorem SmQ.neg {k:Nat}{q:Rat}(h:SmQ k q):SmQ k (-q):=by
 obtain⟨e1,e2⟩:=z0K q;unfold SmQ
 rw[e1,e2,Int.natAbs_neg];exact h
theorem z2M (z:Int)(n:Nat)(hn:n≠0):(mkRat z n).num.natAbs≤z.natAbs∧(mkRat z n).den≤n:=by
 obtain⟨e1,e2⟩:=jS z n hn;rw[e1,e2];exact⟨Int.natAbs_ediv_le_natAbs _ _,Nat.div_le_self _ _⟩
theorem z3M {k:Nat}{z:Int}{n:Nat}(hn:n≠0)(h1:Sm k z.natAbs)(h2:Sm k n):SmQ k (mkRat z n):=by
 obtain⟨e1,e2⟩:=z2M z n hn;exact⟨h1.le e1,h2.le e2⟩
theorem iY (x y:Rat):x.den*y.den≠0:=Nat.mul_ne_zero x.den_nz y.den_nz
theorem SmQ.add {k l:Nat}{x y:Rat}(hx:SmQ k x)(hy:SmQ l y):SmQ (k+l+1) (x+y):=by
 rw[jM];refine z3M (iY x y) ?_ ((hx.2.mul hy.2).mono (by omega));refine Sm.le ?_ (Int.natAbs_add_le _ _);rw[Int.natAbs_mul,Int.natAbs_mul,Int.natAbs_natCast,Int.natAbs_natCast];exact Sm.add (hx.1.mul hy.2) ((hy.1.mul hx.2).mono (by omega))
theorem SmQ.sub {k l:Nat}{x y:Rat}(hx:SmQ k x)(hy:SmQ l y):SmQ (k+l+1) (x-y):=by
 rw[Rat.sub_eq_add_neg];exact hx.add hy.neg
theorem SmQ.mul {k l:Nat}{x y:Rat}(hx:SmQ k x)(hy:SmQ l y):SmQ (k+l) (x*y):=by
 rw[jD];refine z3M (iY x y) ?_ (hx.2.mul hy.2);rw[Int.natAbs_mul];exact hx.1.mul hy.1
theorem SmQ.inv {k:Nat}{x:Rat}(hx:SmQ k x)(h0:x≠0):SmQ k x⁻¹:=by
 have hn:x.num≠0:=fun h=>h0 (Rat.num_eq_zero.1 h);rcases Int.lt_or_gt_of_ne hn with h|h
 · obtain⟨e1,e2⟩:=l8 h
   unfold SmQ
   rw[e1,Int.natAbs_neg,Int.natAbs_natCast,show(x⁻¹).den=x.num.natAbs by omega];exact⟨hx.2,hx.1⟩
 · obtain⟨e1,e2⟩:=inv_pos h
   unfold SmQ
   rw[e1,Int.natAbs_natCast,show(x⁻¹).den=x.num.natAbs by omega];exact⟨hx.2,hx.1⟩
theorem SmQ.div {k l:Nat}{x y:Rat}(hx:SmQ k x)(hy:SmQ l y)(h0:y≠0):SmQ (k+l) (x / y):=by
 rw[Rat.div_def];exact hx.mul (hy.inv h0)
theorem jA {z:Int}{k:Nat}(h:(Sz z).size≤k):Sm k z.natAbs:=by
 rcases bT z with⟨n,hn,rfl⟩|rfl|⟨n,hn,rfl⟩
 · rw[Int.natAbs_neg,Int.natAbs_natCast]
   rw[jw hn]at h
   have h1:=Sm.of (a:=Sn n) (k:=k) (eP n) (by
    have h2:(Sn n).size=(Lib.decDigits n).length:=by rw[← aB,bQ]
    have h3:(⟨(45 :: Lib.decDigits n).toArray⟩:ByteArray).size=(Lib.decDigits n).length+1:=by simp[ByteArray.size]
    omega)
   rwa [bR]at h1
 · rw[show Sz 0=Sn 0 from dC 0]at h
   have h1:=Sm.of (a:=Sn 0) (k:=k) (eP 0) h;rwa [bR]at h1
 · rw[Int.natAbs_natCast]
   rw[dC]at h;have h1:=Sm.of (a:=Sn n) (k:=k) (eP n) h;rwa [bR]at h1
theorem z3L {q:Rat}{k:Nat}(h:(Sq q).size≤k)(hk:0<k):SmQ k q:=by
 by_cases h1:q.den=1
 · rw[jy h1]at h
   refine⟨jA h,?_⟩;rw[h1];exact Nat.one_lt_pow (by omega) (by decide)
 · have h2:(Sq q).size=(Sz q.num).size+1+(Sn q.den).size:=by
    rw[← aB,iD h1,← aB,← aB,bQ];simp;omega
   refine⟨jA (by omega),?_⟩;have h3:=Sm.of (a:=Sn q.den) (k:=k) (eP _) (by omega);rwa [bR]at h3
theorem FitQ.num {q:Rat}(h:FitQ q):FitZ q.num:=by unfold FitZ Fit;exact Sm.mono (k:=900) h.1 (by decide)
theorem FitQ.den {q:Rat}(h:FitQ q):Fit q.den:=by unfold Fit;exact Sm.mono (k:=900) h.2 (by decide)
theorem ky {z:Int}{k:Nat}(h:Sm k z.natAbs)(hk:0<k):(Sz z).size≤k+1:=by
 rcases bT z with⟨n,hn,rfl⟩|rfl|⟨n,hn,rfl⟩
 · rw[Int.natAbs_neg,Int.natAbs_natCast]at h
   have h1:=fP h hk;have h2:(Sn n).size=(Lib.decDigits n).length:=by rw[← aB,bQ]
   have h3:(Sz (-(n:Int))).size=(Lib.decDigits n).length+1:=by rw[jw hn];simp[ByteArray.size]
   omega
 · have h1:=fP h hk
   rw[show Sz 0=Sn 0 from dC 0];simp at h1
   omega
 · rw[Int.natAbs_natCast]at h
   have h1:=fP h hk;rw[dC];omega
theorem zY {q:Rat}{k:Nat}(h:SmQ k q)(hk:0<k):(Sq q).size≤k+1+1+k:=by
 have h1:=ky h.1 hk;have h2:=fP h.2 hk;by_cases h3:q.den=1
 · rw[jy h3];omega
 · have h4:(Sq q).size=(Sz q.num).size+1+(Sn q.den).size:=by
    rw[← aB,iD h3,← aB,← aB,bQ];simp;omega
   omega
theorem pV {n:Nat}(h:n<10^18):Lib.parseIntB 64 (Lib.decDigits n)=.ok (n:Int):=by
 have hl:(Lib.decDigits n).length≤18:=nZ 18 n h (by decide);have hp:=nJ (Lib.decDigits n) (nz n) (by omega);rw[gM]at hp;obtain⟨c,t,hd,hc⟩:=jV (n:=n);have hD:isD c=true:=List.all_eq_true.1 (jl n) c (by rw[hd];exact List.mem_cons_self);have hD':=(fI c).1 hD;rw[hd]at hp ⊢;unfold Lib.parseIntB
 have h1:¬ c.toNat=43:=by omega
 have h2:¬ c.toNat=45:=by omega
 simp only[h1,h2,or_self,if_false,hp]
 have h3:¬ (2^(64-1)≤n):=by
  have:(10:Nat)^18<2^(64-1):=by decide
  omega
 simp[h3]
theorem yJ {n:Nat}(h:n<10^18):Lib.parseIntB 64 (45 :: Lib.decDigits n)=.ok (-(n:Int)):=by
 have hl:(Lib.decDigits n).length≤18:=nZ 18 n h (by decide);have hp:=nJ (Lib.decDigits n) (nz n) (by omega);rw[gM]at hp;unfold Lib.parseIntB
 have e:(45:UInt8).toNat=45:=rfl;simp only[e,or_true,if_true,hp]
 have h3:¬ (2^(64-1)<n):=by
  have:(10:Nat)^18<2^(64-1):=by decide
  omega
 simp[h3]
theorem z2w {z:Int}(h:(Sz z).size≤18):Lib.parseIntB 64 (Sz z).data.toList=.ok z:=by
 have hs:=jA h;rcases bT z with⟨n,hn,rfl⟩|rfl|⟨n,hn,rfl⟩
 · rw[Int.natAbs_neg,Int.natAbs_natCast]at hs
   rw[jw hn];exact yJ hs
 · rw[show Sz 0=Sn 0 from dC 0,bQ]
   exact pV (by decide)
 · rw[Int.natAbs_natCast]at hs
   rw[dC,bQ];exact pV hs
theorem z0V (z:Int):(⟨(Lib.itoa z).toArray⟩:ByteArray)=Sz z:=by
 unfold Lib.itoa Sz
 split
 · rfl
 · unfold Sn
   rw[show z.toNat=z.natAbs by omega]
set_option maxRecDepth 100000
set_option maxHeartbeats 20000000
open Go.Lib (hid)
theorem z6p {n g:Nat}(hg:1≤g):n<((g+n / g) / 2+1)*((g+n / g) / 2+1):=by
 have h:=vG (n:=(n:Int)) (g:=(g:Int)) (by omega);unfold nO at h
 exact_mod_cast h
theorem npos {n g:Nat}(hn:1≤n)(hg:1≤g):1≤(g+n / g) / 2:=by
 have h:=yV (n:=(n:Int)) (g:=(g:Int)) (by omega) (by omega);unfold nO at h
 exact_mod_cast h
theorem z6o {n g:Nat}(hg:1≤g)(h:g≤(g+n / g) / 2):g*g≤n:=by
 have h:=vF (n:=(n:Int)) (g:=(g:Int)) (by omega) (by unfold nO;exact_mod_cast h);exact_mod_cast h
def AbG (n g:Nat):Prop:=1≤g∧n<(g+1)*(g+1)
theorem vB (w₀:World):CV w₀ 57 #[.string ⟨#[48]⟩] (.string ⟨#[48]⟩):=by
 intro w hw;clear hw;go_enter Tryz.func57,Tryz.ntmps57
 go_wp2;go_ret
 exact⟨rfl,Below.refl _ _⟩
theorem yL (x:ByteArray)(n g0:Nat)(T:Nat→ByteArray)(q t:Nat→ByteArray)(hx:(x.toList==[48])=false)(hn:1≤n)(hg0:AbG n g0)(w₀:World)
 (hfg:CV w₀ 114 #[.string x] (.string (T g0)))
 (h1:∀ g,AbG n g→g≤g0→CV w₀ 56 #[.string x,.string (T g)] (.string (q g)))
 (h2:∀ g,AbG n g→g≤g0→CV w₀ 115 #[.string (q g)] (.string (T (n / g))))
 (h3:∀ g,AbG n g→g≤g0→CV w₀ 25 #[.string (T g),.string (T (n / g))] (.string (T (g+n / g))))
 (h4:∀ g,AbG n g→g≤g0→CV w₀ 26 #[.string (T (g+n / g)),.string ⟨#[49,47,50]⟩] (.string (t g)))
 (h5:∀ g,AbG n g→g≤g0→CV w₀ 115 #[.string (t g)] (.string (T ((g+n / g) / 2))))
 (h6:∀ g,AbG n g→g≤g0→CV w₀ 111 #[.string (T ((g+n / g) / 2)),.string (T g)] (.int .i64 (if (g+n / g) / 2<g then -1 else if g<(g+n / g) / 2 then 1 else 0))) :
 CV w₀ 57 #[.string x] (.string (T (isq n))):=by
 intro w hw;have C0:=hid (hfg.mono hw);have C1:=hid (fun g ha hg=>(h1 g ha hg).mono hw);have C2:=hid (fun g ha hg=>(h2 g ha hg).mono hw);have C3:=hid (fun g ha hg=>(h3 g ha hg).mono hw);have C4:=hid (fun g ha hg=>(h4 g ha hg).mono hw);have C5:=hid (fun g ha hg=>(h5 g ha hg).mono hw);have C6:=hid (fun g ha hg=>(h6 g ha hg).mono hw);have HN:=hid hn;have HG0:=hid hg0;clear hfg h1 h2 h3 h4 h5 h6 hw hn hg0;go_enter Tryz.func57,Tryz.ntmps57
 go_wp2_with fail
 refine(C0.o _ (Below.refl _ _)).mono ?_;rintro e w1 ⟨rfl,hb⟩;have HB:=hid (show Below w.heap.size w w1 from hb);clear hb;go_wp2;go_loopg [3] g0 (fun k s3 wr=>∃ g,k=g∧s3=.string (T g)∧Hid (AbG n g)∧Hid (g≤g0)∧Hid (Below w.heap.size w wr))
 case atStart=>exact⟨g0,rfl,rfl,HG0,hid (Nat.le_refl _),HB⟩
 case round =>
  obtain⟨g,rfl,rfl,ha,hg,hB⟩:=hrel;obtain ⟨D1,D2,D3,D4,D5,D6⟩:=dw (C1.o gk ha.o hg.o) (C2.o gk ha.o hg.o) (C3.o gk ha.o hg.o) (C4.o gk ha.o hg.o) (C5.o gk ha.o hg.o) (C6.o gk ha.o hg.o);have HS:=hid (z6p (n:=n) ha.o.1);have HP:=hid (npos HN.o ha.o.1);have HT:=hid (fun h=>z6o (n:=n) ha.o.1 h);generalize (gk+n / gk) / 2=nx at *;go_wp2_with fail
  refine(D1.o _ hB.o).mono ?_;rintro e w2 ⟨rfl,hb⟩;have B2:=hid (hB.o.trans (hb.mono hB.o.size));clear hb;go_wp2_with fail
  refine(D2.o _ B2.o).mono ?_;rintro e w3 ⟨rfl,hb⟩;have B3:=hid (B2.o.trans (hb.mono B2.o.size));clear hb;go_wp2_with fail
  refine(D3.o _ B3.o).mono ?_;rintro e w4 ⟨rfl,hb⟩;have B4:=hid (B3.o.trans (hb.mono B3.o.size));clear hb;go_wp2_with fail
  refine(D4.o _ B4.o).mono ?_;rintro e w5 ⟨rfl,hb⟩;have B5:=hid (B4.o.trans (hb.mono B4.o.size));clear hb;go_wp2_with fail
  refine(D5.o _ B5.o).mono ?_;rintro e w6 ⟨rfl,hb⟩;have B6:=hid (B5.o.trans (hb.mono B5.o.size));clear hb;by_cases hlt:nx<gk
  · rw[if_pos hlt]at D6
    have HLT:=hid hlt;clear hlt;go_wp2_with fail
    refine(D6.o _ B6.o).mono ?_;rintro e w7 ⟨rfl,hb⟩;have B7:=hid (B6.o.trans (hb.mono B6.o.size));clear hb;go_wp2;go_roundg nx
    case measure=>exact HLT.o
    case rel=>exact⟨nx,rfl,rfl,hid ⟨HP.o,HS.o⟩,hid (Nat.le_trans (Nat.le_of_lt HLT.o) hg.o),B7⟩
  · rw[if_neg hlt]at D6
    have HE:=hid (mW (HT.o (by omega)) ha.o.2);obtain⟨c,hc⟩:∃ c:Int,(if gk<nx then (1:Int) else 0)=c:=⟨_,rfl⟩;have hc0:decide (0≤c)=true:=decide_eq_true (by rw[← hc];split<;>decide);rw[hc]at D6;clear hc hlt;go_wp2_with fail
    refine(D6.o _ B6.o).mono ?_;rintro e w7 ⟨rfl,hb⟩;have B7:=hid (B6.o.trans (hb.mono B6.o.size));clear hb;go_wp2;go_ret
    exact⟨(by rw[HE.o];rfl),B7.o⟩
end Go.Proofs.YtkiklcbhglpooaaGreatDoor
set_option maxRecDepth 100000
set_option maxHeartbeats 20000000
open Go.Lib (hid)
namespace Go.Proofs.YtkiklcbhglpooaaGreatDoor
open Go.RowKit Go.Gb
theorem wrap_small {z:Int}(h0:0≤z)(h1:z≤1000000):IntKind.i64.wrap z=z:=by
 have:z.natAbs≤1000000:=by omega
 simp[IntKind.wrap,IntKind.bits,IntKind.signed]
 omega
theorem ug (x:ByteArray)(w₀:World)  (h1:((x.size:Nat):Int).tdiv 4=0) :
 CV w₀ 114 #[.string x] (.string ⟨#[51,50]⟩):=by
 intro w hw;have k1:=h1;clear h1 hw;go_enter Tryz.func114,Tryz.ntmps114
 have u6:=hid (Below.refl w.heap.size w);go_wp2;exact bodyPost_ret (v:=.string ⟨#[51,50]⟩) (by simp[results,Tryz.results114,go_sem]) rfl ⟨rfl,u6.o⟩
theorem vE (x hx r g z:ByteArray)(d m:Nat)(w₀:World)(h1:CV w₀ 57 #[.string hx] (.string r))(h2:CV w₀ 25 #[.string r,.string ⟨#[49]⟩] (.string g))(h3:CV w₀ 163 #[.string ⟨#[48]⟩,.int .i64 (d:Int)] (.string z))(e1:((x.size:Nat):Int).tdiv 4=(d:Int))(e2:IntKind.i64.wrap (d:Int)=(d:Int))(e3:((d:Int)==0)=false)(e4:IntKind.i64.wrap (2*(d:Int))=2*(d:Int))(e5:((x.size:Nat):Int)-2*(d:Int)=(m:Int))(e6:IntKind.i64.wrap (m:Int)=(m:Int))(e7:m≤x.size)(e8:x.extract 0 m=hx)(e9:g.size+z.size≤1000000) :
 CV w₀ 114 #[.string x] (.string (g++z)):=by
 intro w hw;obtain ⟨C1,C2,C3⟩:=av (h1.mono hw) (h2.mono hw) (h3.mono hw);have k1:=e1;have k2:=e2;have k3:=e3;have k3':¬ (d:Int)=0:=by simpa using e3
 have k4:=e4;have k5:=e5;have k6:=e6;have k7:(m:Int)≤(x.size:Int):=by omega
 have k8:=e8;have k9:=fun W:World=>run_string_add_sum (P:=Tryz.prog) W g z (by omega);clear e1 e2 e3 e4 e5 e6 e7 e8 e9 h1 h2 h3 hw;go_enter Tryz.func114,Tryz.ntmps114
 have u6:=hid (Below.refl w.heap.size w);go_wp2_with fail
 with_reducible refine(C1.o _ u6.o).mono ?_
 rintro e W1 ⟨rfl,hb⟩;have w9:=hbt u6 hb;clear hb;go_wp2_with fail
 with_reducible refine(C2.o _ w9.o).mono ?_
 rintro e W2 ⟨rfl,hb⟩;have wo:=hbt w9 hb;clear hb;go_wp2_with fail
 with_reducible refine(C3.o _ wo.o).mono ?_
 rintro e W3 ⟨rfl,hb⟩;have wu:=hbt wo hb;clear hb;go_wp2;exact bodyPost_ret (v:=.string (g++z)) (by simp[results,Tryz.results114,go_sem]) rfl ⟨rfl,wu.o⟩
def Stb (w:World) (g:Nat) (cs:Array Value) (_:TypeId):Prop:=g<w.heap.size∧∀ i v,cs[i]? = some v→w.cell? ⟨g,i,none⟩=some v
theorem Stb.cell {w:World}{g i:Nat}{cs:Array Value}{T:TypeId}{v:Value}(h:Stb w g cs T)(hi:cs[i]? = some v):w.cell? ⟨g,i,none⟩=some v:=h.2 i v hi
theorem Stb.below {w w':World}{g:Nat}{cs:Array Value}{T:TypeId}(h:Stb w g cs T)(hb:Below w.heap.size w w'):Stb w' g cs T :=
 ⟨Nat.lt_of_lt_of_le h.1 hb.size,fun i v hi=>(hb.cell (p:=⟨g,i,none⟩) h.1).trans (h.2 i v hi)⟩
instance {W W':World}{g:Nat}{c:Array Value}{T:TypeId}:Gr (Stb W g c T) W W' (Stb W' g c T):=⟨fun h k=>k.below h⟩
