/- texts -/
import Derived.Test.YtlgkolkcokaefaaGreatDoorMz12q
import Derived.Deep.RegionHeld3
import Derived.StillTailTactics
open Go.Proofs.Tryz
set_option maxRecDepth 100000
set_option maxHeartbeats 20000000
open Go.Lib (hid)
namespace Go.Proofs.YtlgkolkcokaefaaGreatDoor
open Go.RowKit Go.Gb
theorem z0J {a b c:Nat}{os:List Nat}(hs:cz (ae a) (ae b) os (ae a).length c)(hl:(ae b).length≤(ae a).length):aj (os++[c])=a+b∧∀ x∈os++[c],x<BB:=by
 obtain⟨h1,h2⟩:=hs.done hl;rw[aB,aB]at h1;exact⟨h1,h2⟩
theorem wG (v1 v2:Value)(a b:Nat)(ha:a≠0)(hlb:(ae b).length≤(ae a).length)(hl:(ae a).length≤10000)(w:World)(h1:Rd .u64 w v1 (ae a))(h2:Rd .u64 w v2 (ae b)) :
 Calls Tryz.prog 249 #[v1,v2,.func (.func 251) #[.pointer (some ⟨w.heap.size,0,none⟩)] #[]] (w.alloc (.cells #[.int .u64 0] 270)) fun e w' =>
  ∃ v,e=.returned v∧∃ (os:List Nat) (c:Nat),aj (os++[c])=a+b∧(∀ x∈os++[c],x<BB)∧os.length=(ae a).length∧Own .u64 110 (w.heap.size+1) w' v os∧Car w' w.heap.size c∧Below w.heap.size w w':=by
 obtain⟨b1,o1,c1,rfl,_,_,k1,r1⟩:=dE h1 (List.length_pos_iff.2 (by rw[bJ ha];simp));have hb0:=(Below.refl w.heap.size w).alloc (Nat.le_refl _) (.cells #[.int .u64 0] 270);have hcx:∀ i,i<(ae a).length→(w.alloc (.cells #[.int .u64 0] 270)).cell? ⟨b1,o1+i,none⟩=some (.int .u64 (((ae a).getD i 0:Nat):Int)):=fun i hi=>(hb0.cell (p:=⟨b1,o1+i,none⟩) k1).trans (r1 i hi);have hz:(w.alloc (.cells #[.int .u64 0] 270)).heap.size=w.heap.size+1:=by simp
 have fin:∀ (e:Ending) (w':World),(e=.returned (.slice (some ⟨w.heap.size+1,0,none⟩) (ae a).length ((ae a).length+1))∧∃ (os:List Nat) (c:Nat),cz (ae a) (ae b) os (ae a).length c∧Blk w' (w.heap.size+1) (os++[0])∧Car w' w.heap.size c∧(w.alloc (.cells #[.int .u64 0] 270)).grownBy w' (some w.heap.size)) →
  ∃ v,e=.returned v∧∃ (os:List Nat) (c:Nat),aj (os++[c])=a+b∧(∀ x∈os++[c],x<BB)∧os.length=(ae a).length∧Own .u64 110 (w.heap.size+1) w' v os∧Car w' w.heap.size c∧Below w.heap.size w w':=by
  rintro e w' ⟨he,os,c,hs,hblk,hc,hg⟩;obtain⟨g1,g2⟩:=z0J hs hlb;have hlen:=hs.1;have hown:=hblk.own (B:=w.heap.size+1) (by omega) (by unfold maxLen;simp;omega) os.length (by simp);rw[List.take_left,hlen,List.length_append,List.length_singleton,hlen]at hown;exact⟨_,he,os,c,g1,g2,hlen,hown,hc,hb0.grown hg (by simp) (fun k hk=>by cases hk;exact Nat.le_refl _)⟩
 rcases h2 with⟨rfl,h2⟩|⟨b2,o2,c2,rfl,_,_,k2,r2⟩
 · have:=qx cz w.heap.size b1 o1 c1 none 0 (ae a) (ae b) (by omega) (w.alloc (.cells #[.int .u64 0] 270)) (zD _ _ _ (aQ a) (aQ b)) (cz.start _ _) (fun os i c h=>h.1) (kT w) (by rw[hz];omega) (by omega) hcx (by rw[h2];simp)
   rw[hz,h2]at this;rw[h2]at fin;exact this.mono fin
 · have:=o5 cz w.heap.size b1 o1 c1 b2 o2 c2 (ae a) (ae b) (by omega) (w.alloc (.cells #[.int .u64 0] 270)) (zD _ _ _ (aQ a) (aQ b)) (cz.start _ _) (fun os i c h=>h.1) (kT w) (by rw[hz];omega) (by omega) hcx (by rw[hz];omega) (by omega) (fun i hi=>(hb0.cell (p:=⟨b2,o2+i,none⟩) k2).trans (r2 i hi))
   rw[hz]at this;exact this.mono fin
theorem z3R (a b:Nat)(hab:a≠0∨b≠0)(hla:(ae a).length≤10000)(hlb:(ae b).length≤10000):z4K a b:=by
 intro v1 v2 w h1 h2;obtain⟨i0,hi,hz0,hz1,hz2⟩:=info_parts Tryz.info110;by_cases hlt:(ae a).length<(ae b).length
 · have hb:b≠0:=by intro h;rw[h,aP]at hlt;simp at hlt
   have HJ:=hid (wG v2 v1 b a hb (by omega) hlb w h2 h1);rw[Nat.add_comm b a]at HJ;clear hb;obtain⟨a1,c1,rfl⟩:=aU h1;obtain⟨a2,c2,rfl⟩:=aU h2;have Hl:=hid hlb;clear h1 h2 hab hla hlb;generalize a+b=s at *;generalize (ae a).length=m at *;generalize (ae b).length=n at *;go_enter func243,ntmps243
   go_wp2_with fail
   refine HJ.out.mono ?_;rintro e w1 ⟨v,rfl,os,c,g1,g2,g3,hown,hcar,hbw⟩;have hc1:=cell_of_one hcar;obtain ⟨HG1,HG2,HG3⟩:=ah g1 g2 g3;have HOW:=hid (show w1.ownsRow (w.heap.size+1) 110 1 v os.length (cls .u64 os) from hown);have HBW:=hid hbw;have HSZ:=hid hcar.lt;clear g1 g2 g3 hown hcar hbw;go_wp2_with (at_builtin;refine wpList_append_own _ rfl _ _ 174 rfl (w.heap.size+1) 110 i0 (.int .u64 0) 1 8 underlying174 hi hz0 hz1 hz2 rfl (by decide) _ _ _ rfl (HOW.out.alloc _) ⟨w1.heap.size,0,none⟩ 1 1 [.int .u64 (c:Int)] rfl rfl (cells_one _ _ _) (by intro u hu;simp at hu;subst hu;rfl) (by have:=HG3.out;have:=Hl.out;unfold maxLen;omega) (by have:=HG3.out;have:=Hl.out;omega) (by have:=HSZ.out;simp;omega) ?_)
   intro v' w2 hown' hgrow _;have hox:Own .u64 110 w.heap.size w2 v' (os++[c]):=(show Own .u64 110 (w.heap.size+1) w2 v' (os++[c]) by unfold Own;rw[bT,List.length_append];exact hown').mono (Nat.le_succ _);have htr:=eX 110 w.heap.size v' (os++[c]) HG2.out w2 hox;rw[HG1.out]at htr;have HTR:=hid htr;have HN:=hid ((HBW.out.alloc HBW.out.size (.cells #[.int .u64 (c:Int)] 110)).grown hgrow (by have:=HSZ.out;simp;omega) (fun k hk=>Nat.le_of_succ_le (HOW.out.lt k hk).1));clear hox htr hown' hgrow;go_wp2_with fail
   refine HTR.out.mono ?_;rintro e w3 ⟨v3,rfl,hown,rfl⟩;go_wp2;go_ret
   exact⟨v3,rfl,hown,HN.out⟩
 · have ha:a≠0:=by
    intro h;rw[h,aP]at hlt;rcases hab with h2|h2
    · exact h2 h
    · have:=List.length_pos_iff.2 (show ae b≠[]by rw[bJ h2];simp)
      simp at hlt;rw[hlt]at this;simp at this
   have HJ:=hid (wG v1 v2 a b ha (by omega) hla w h1 h2);clear ha;obtain⟨a1,c1,rfl⟩:=aU h1;obtain⟨a2,c2,rfl⟩:=aU h2;have Hl:=hid hla;clear h1 h2 hab hla hlb;generalize a+b=s at *;generalize (ae a).length=m at *;generalize (ae b).length=n at *;go_enter func243,ntmps243
   go_wp2_with fail
   refine HJ.out.mono ?_;rintro e w1 ⟨v,rfl,os,c,g1,g2,g3,hown,hcar,hbw⟩;have hc1:=cell_of_one hcar;obtain ⟨HG1,HG2,HG3⟩:=ah g1 g2 g3;have HOW:=hid (show w1.ownsRow (w.heap.size+1) 110 1 v os.length (cls .u64 os) from hown);have HBW:=hid hbw;have HSZ:=hid hcar.lt;clear g1 g2 g3 hown hcar hbw;go_wp2_with (at_builtin;refine wpList_append_own _ rfl _ _ 174 rfl (w.heap.size+1) 110 i0 (.int .u64 0) 1 8 underlying174 hi hz0 hz1 hz2 rfl (by decide) _ _ _ rfl (HOW.out.alloc _) ⟨w1.heap.size,0,none⟩ 1 1 [.int .u64 (c:Int)] rfl rfl (cells_one _ _ _) (by intro u hu;simp at hu;subst hu;rfl) (by have:=HG3.out;have:=Hl.out;unfold maxLen;omega) (by have:=HG3.out;have:=Hl.out;omega) (by have:=HSZ.out;simp;omega) ?_)
   intro v' w2 hown' hgrow _;have hox:Own .u64 110 w.heap.size w2 v' (os++[c]):=(show Own .u64 110 (w.heap.size+1) w2 v' (os++[c]) by unfold Own;rw[bT,List.length_append];exact hown').mono (Nat.le_succ _);have htr:=eX 110 w.heap.size v' (os++[c]) HG2.out w2 hox;rw[HG1.out]at htr;have HTR:=hid htr;have HN:=hid ((HBW.out.alloc HBW.out.size (.cells #[.int .u64 (c:Int)] 110)).grown hgrow (by have:=HSZ.out;simp;omega) (fun k hk=>Nat.le_of_succ_le (HOW.out.lt k hk).1));clear hox htr hown' hgrow;go_wp2_with fail
   refine HTR.out.mono ?_;rintro e w3 ⟨v3,rfl,hown,rfl⟩;go_wp2;go_ret
   exact⟨v3,rfl,hown,HN.out⟩
def Sn (n:Nat):ByteArray:=⟨(Lib.decDigits n).toArray⟩
theorem bW (n:Nat):(Sn n).data.toList=Lib.decDigits n:=by simp[Sn]
theorem dS (n:Nat):vld (Sn n).data.toList=true:=by rw[bW];exact mR n
theorem bS (n:Nat):aK (Sn n).data.toList=n:=by rw[bW];exact fJ n
theorem z4Q {a:ByteArray}(h:vld a.data.toList=true):a=Sn (aK a.data.toList):=by
 cases a with
 | mk d =>
   unfold Sn
   congr 1
   rw[jF _ h]
theorem z2T {x y:Nat}(h:Sn x=Sn y):x=y:=by rw[← bS x,← bS y,h]
def Sm (k n:Nat):Prop:=n<10^k
theorem Sm.mono {k l n:Nat}(h:Sm k n)(hkl:k≤l):Sm l n:=Nat.lt_of_lt_of_le h (Nat.pow_le_pow_right (by decide) hkl)
theorem Sm.le {k m n:Nat}(h:Sm k n)(hmn:m≤n):Sm k m:=Nat.lt_of_le_of_lt hmn h
theorem Sm.add {k m n:Nat}(hm:Sm k m)(hn:Sm k n):Sm (k+1) (m+n):=by
 unfold Sm at *;rw[Nat.pow_succ];omega
theorem Sm.mul {k l m n:Nat}(hm:Sm k m)(hn:Sm l n):Sm (k+l) (m*n):=by
 unfold Sm at *
 rw[Nat.pow_add];rcases Nat.eq_zero_or_pos n with h|h
 · rw[h,Nat.mul_zero];exact Nat.mul_pos (Nat.pow_pos (by decide)) (Nat.pow_pos (by decide))
 · exact Nat.mul_lt_mul_of_lt_of_le hm (Nat.le_of_lt hn) (Nat.pow_pos (by decide))
theorem Sm.of {a:ByteArray}(h:vld a.data.toList=true){k:Nat}(hl:a.size≤k):Sm k (aK a.data.toList):=by
 have h1:=gJ _ (bD h);exact Nat.lt_of_lt_of_le h1 (Nat.pow_le_pow_right (by decide) (by rw[aH];exact hl))
theorem qF:∀ (k n:Nat),Sm k n→0<k→(Lib.decDigits n).length≤k
 | 0,_,_,h=>absurd h (by omega)
 | 1,n,h,_=>by
   have:n<10:=by simpa [Sm] using h
   rw[Lib.decDigits,dif_pos this];simp
 | k+2,n,h,_=>by
   by_cases h10:n<10
   · rw[Lib.decDigits,dif_pos h10];simp
   · rw[Lib.decDigits,dif_neg h10,List.length_append]
     have:=qF (k+1) (n / 10) (by unfold Sm at *;rw[Nat.pow_succ]at h;omega) (by omega);simp;omega
theorem ig {k n:Nat}(h:Sm k n)(hk:0<k):(Sn n).size≤k:=by
 have:=qF k n h hk;rw[← bW,aH]at this;exact this
theorem gF {k n:Nat}(h:Sm k n)(hk:0<k):(ae n).length≤k:=by
 have h1:=df (bD (dS n)) k (by rw[aH];have:=ig h hk;omega);rwa [bS]at h1
def Fit (n:Nat):Prop:=Sm 2000 n
theorem Fit.size {n:Nat}(h:Fit n):(Sn n).size≤2000:=ig h (by decide)
theorem Fit.max {n:Nat}(h:Fit n):(Sn n).size≤maxLen:=by have:=h.size;unfold maxLen;omega
theorem z2Z (x:Nat)(hx:Fit x)(w:World) :
 Calls Tryz.prog 137 #[.string (Sn x)] w fun e w'=>e=.returned (.bool true)∧w=w' :=
 bK (Sn x) (dS x) hx.max w
theorem qo (x y:Nat)(hx:Fit x)(hy:Fit y)(w:World) :
 Calls Tryz.prog 199 #[.string (Sn x),.string (Sn y)] w fun e w'=>e=.returned (.tuple #[.int .i64 (cmpN x y),.int .i64 0])∧w=w':=by
 have h:=vB (Sn x) (Sn y) (dS x) (dS y) hx.max hy.max w;rwa [bS,bS]at h
theorem nAdd (x y:Nat)(hx:Fit x)(hy:Fit y)(w:World)(htab:Tb w) :
 CR 229 #[.string (Sn x),.string (Sn y)] w (.tuple #[.string (Sn (x+y)),.int .i64 0]):=by
 have sx:=hx.size;have sy:=hy.size;by_cases hs:(Sn x).size≤18∧(Sn y).size≤18
 · have h:=z0U (Sn x) (Sn y) (dS x) (dS y) hs.1 hs.2 w htab
   rwa [bS,bS]at h
 · have hxy:x≠0∨y≠0:=by
    rcases Nat.eq_zero_or_pos x with h0|h0
    · rcases Nat.eq_zero_or_pos y with h1|h1
      · exfalso
        subst h0 h1;have:(Sn 0).size≤1:=ig (k:=1) (by simp[Sm]) (by decide);omega
      · right;omega
    · left;omega
   have h:=z2N (Sn x) (Sn y) (dS x) (dS y) (by omega) (by omega) (by omega) (by
    rw[bS,bS]
    exact z3R x y hxy (Nat.le_trans (gF hx (by decide)) (by decide)) (Nat.le_trans (gF hy (by decide)) (by decide))) w htab
   rwa [bS,bS]at h
theorem nSub (x y:Nat)(hx:Fit x)(hyx:y≤x)(w:World)(htab:Tb w) :
 CR 228 #[.string (Sn x),.string (Sn y)] w (.tuple #[.string (Sn (x-y)),.int .i64 0]):=by
 have sx:=hx.size;have sy:=Fit.size (Sm.le hx hyx);have h:=z3S (Sn x) (Sn y) (dS x) (dS y) (by rw[bS,bS];exact hyx) (by omega) (by omega) w htab;rwa [bS,bS]at h
theorem nMul (x y:Nat)(hx:Fit x)(hy:Fit y)(w:World)(htab:Tb w) :
 CR 200 #[.string (Sn x),.string (Sn y)] w (.tuple #[.string (Sn (x*y)),.int .i64 0]):=by
 have sx:=hx.size;have sy:=hy.size;have h:=z3T (Sn x) (Sn y) (dS x) (dS y) (by omega) (by omega) w htab;rwa [bS,bS]at h
theorem z3u (x y:Nat)(hx:Fit x)(hy:Fit y)(h0:y≠0)(w:World)(htab:Tb w) :
 CR 227 #[.string (Sn x),.string (Sn y)] w (.tuple #[.string (Sn (x / y)),.string (Sn (x%y)),.int .i64 0]):=by
 have sx:=hx.size;have sy:=hy.size;have h:=yu (Sn x) (Sn y) (dS x) (dS y) (by rw[bS];exact h0) (by omega) (by omega) w htab;rwa [bS,bS]at h
end Go.Proofs.YtlgkolkcokaefaaGreatDoor
namespace Go.Proofs.YtlgkolkcokaefaaGreatDoor
open Go.RowKit Go.Gb
theorem eU {W w1:World}(hb:Below W.heap.size W w1):(∀ b o,b<W.heap.size→w1.cell? ⟨b,o,none⟩=W.cell? ⟨b,o,none⟩)∧(∀ b o,b<W.heap.size→w1.frozen? ⟨b,o,none⟩=W.frozen? ⟨b,o,none⟩) :=
 ⟨fun b o h=>hb.cell (p:=⟨b,o,none⟩) h,fun b o h=>hb.frozen (p:=⟨b,o,none⟩) h⟩
def Zz (w:World):Prop:=1<w.heap.size∧w.cell? ⟨1,0,none⟩=some (.int .i64 0)∧w.cell? ⟨1,1,none⟩=some (.string ⟨#[48]⟩)
theorem Zz.on {w w':World}(h:Zz w)(hb:Below w.heap.size w w'):Zz w' :=
 ⟨Nat.lt_of_lt_of_le h.1 hb.size,(hb.cell (p:=⟨1,0,none⟩) h.1).trans h.2.1,(hb.cell (p:=⟨1,1,none⟩) h.1).trans h.2.2⟩
structure La (w:World):Prop where
 tb:Tb w
 zz:Zz w
theorem La.on {w w':World}(h:La w)(hb:Below w.heap.size w w'):La w':=⟨h.tb.on hb,h.zz.on hb⟩
theorem tY:Sn 0=⟨#[48]⟩:=by decide +kernel
theorem z4i:Sn 1=⟨#[49]⟩:=by decide +kernel
theorem pK (n:Nat):(Sn n).toList=Lib.decDigits n:=by rw[toList_data,bW]
theorem yX {x y:Nat}(h:x≠y):((Sn x).toList==(Sn y).toList)=false:=by
 rw[beq_eq_false_iff_ne,pK,pK];exact fun h2=>h (z3K h2)
theorem yV {x:Nat}(h:x≠0):((Sn x).toList==[48])=false:=by
 rw[beq_eq_false_iff_ne,pK];intro h2;apply h
 rw[← fJ x,h2];rfl
def Zv (z:Int):Value:=.agg #[.int .i64 z.sign,.string (Sn z.natAbs)]
def Sz (z:Int):ByteArray:=if z<0 then ⟨(45 :: Lib.decDigits z.natAbs).toArray⟩ else Sn z.natAbs
theorem iZ {n:Nat}(h:n≠0):Sz (-(n:Int))=⟨(45 :: Lib.decDigits n).toArray⟩:=by
 unfold Sz;rw[if_pos (by omega),Int.natAbs_neg,Int.natAbs_natCast]
theorem dK (n:Nat):Sz (n:Int)=Sn n:=by
 unfold Sz;rw[if_neg (by omega),Int.natAbs_natCast]
theorem gm {n:Nat}(h:n≠0):Zv (-(n:Int))=.agg #[.int .i64 (-1),.string (Sn n)]:=by
 unfold Zv;rw[Int.natAbs_neg,Int.natAbs_natCast,Int.sign_neg,Int.sign_natCast_of_ne_zero h]
theorem fZ {n:Nat}(h:n≠0):Zv (n:Int)=.agg #[.int .i64 1,.string (Sn n)]:=by
 unfold Zv;rw[Int.natAbs_natCast,Int.sign_natCast_of_ne_zero h]
theorem fV:Zv 0=.agg #[.int .i64 0,.string ⟨#[48]⟩]:=by
 unfold Zv;rw[← tY];rfl
theorem bR (z:Int):(∃ n:Nat,n≠0∧z = -(n:Int))∨z=0∨∃ n:Nat,n≠0∧z=(n:Int):=by
 rcases Int.lt_trichotomy z 0 with h|h|h
 · left;exact⟨z.natAbs,by omega,by omega⟩
 · right;left;exact h
 · right;right;exact⟨z.natAbs,by omega,by omega⟩
def FitZ (z:Int):Prop:=Fit z.natAbs
theorem FitZ.neg {n:Nat}(h:FitZ (-(n:Int))):Fit n:=by unfold FitZ at h;rwa [Int.natAbs_neg,Int.natAbs_natCast]at h
theorem FitZ.nat {n:Nat}(h:FitZ (n:Int)):Fit n:=by unfold FitZ at h;rwa [Int.natAbs_natCast]at h
theorem Fit.neg {n:Nat}(h:Fit n):FitZ (-(n:Int)):=by unfold FitZ;rwa [Int.natAbs_neg,Int.natAbs_natCast]
theorem Fit.nat {n:Nat}(h:Fit n):FitZ (n:Int):=by unfold FitZ;rwa [Int.natAbs_natCast]
theorem fit0:Fit 0:=(show Sm 1 0 by simp[Sm]).mono (by decide)
theorem fit1:Fit 1:=(show Sm 1 1 by simp[Sm]).mono (by decide)
theorem fu (s:Int)(b:ByteArray)(h1 : -1≤s)(h2:s≤1)(w:World) :
 CR 207 #[.agg #[.int .i64 s,.string b]] w (.agg #[.int .i64 (-s),.string b]):=by
 go_enter func207,ntmps207
 go_wp2;refine bodyPost_ret (v:=.agg #[.int .i64 (-s),.string b]) (by simp[results,results207,go_sem]) rfl ⟨rfl,?_⟩;repeat (first|exact Below.refl _ _|refine Below.setCell ?_ (by simp) _|refine Below.alloc ?_ (by simp) _|refine Below.drew ?_)
theorem gV (z:Int)(w:World) :
 CR 207 #[Zv z] w (Zv (-z)):=by
 have h:=fu z.sign (Sn z.natAbs) (by rcases Int.sign_trichotomy z with h|h|h<;>omega) (by rcases Int.sign_trichotomy z with h|h|h<;>omega) w;unfold Zv
 rw[Int.sign_neg,Int.natAbs_neg];exact h
theorem iy (z:Int)(hf:FitZ z)(w:World) :
 CR 173 #[Zv z] w (.string (Sz z)):=by
 rcases bR z with⟨n,hn,rfl⟩|rfl|⟨n,hn,rfl⟩
 · rw[gm hn,iZ hn]
   have hadd:=run_string_add_sum (P:=Tryz.prog) (w.alloc (.cells #[.int .i64 (-1),.string (Sn n)] 155)) ⟨#[45]⟩ (Sn n) (by have:=hf.neg.size;have e:(⟨#[45]⟩:ByteArray).size=1:=rfl;omega);clear hn hf;go_enter func173,ntmps173
   go_wp2;go_ret
   refine⟨?_,(Below.refl _ _).alloc (Nat.le_refl _) _⟩
   have e:(⟨#[45]⟩:ByteArray)++Sn n=⟨(45 :: Lib.decDigits n).toArray⟩:=by
    apply ByteArray.ext
    apply Array.ext'
    simp[Sn]
   rw[e];rfl
 · rw[fV,show Sz 0=⟨#[48]⟩from(dK 0).trans tY]
   go_enter func173,ntmps173
   go_wp2;go_ret
   exact⟨rfl,(Below.refl _ _).alloc (Nat.le_refl _) _⟩
 · rw[fZ hn,dK]
   go_enter func173,ntmps173
   go_wp2;go_ret
   exact⟨rfl,(Below.refl _ _).alloc (Nat.le_refl _) _⟩
theorem tZ (s:Int)(w:World)(hz:Zz w) :
 CR 138 #[.int .i64 s,.string ⟨#[48]⟩] w (Zv 0):=by
 rw[fV];obtain⟨h0,h1,h2⟩:=hz;go_enter func138,ntmps138
 go_wp2;refine bodyPost_ret (v:=.agg #[.int .i64 0,.string ⟨#[48]⟩]) (by simp[results,results138,go_sem]) rfl ⟨rfl,?_⟩;repeat (first|exact Below.refl _ _|refine Below.setCell ?_ (by simp) _|refine Below.alloc ?_ (by simp) _|refine Below.drew ?_)
theorem u7 (s:Int)(n:Nat)(hn:n≠0)(w:World) :
 CR 138 #[.int .i64 s,.string (Sn n)] w (.agg #[.int .i64 s,.string (Sn n)]):=by
 have h0:=yV hn;clear hn;go_enter func138,ntmps138
 go_wp2;refine bodyPost_ret (v:=.agg #[.int .i64 s,.string (Sn n)]) (by simp[results,results138,go_sem]) rfl ⟨rfl,?_⟩;repeat (first|exact Below.refl _ _|refine Below.setCell ?_ (by simp) _|refine Below.alloc ?_ (by simp) _|refine Below.drew ?_)
theorem l9 (s:Int)(n:Nat)(z:Int)(hz:z=s*(n:Int))(hs:s=1∨s = -1)(w:World)(hl:Zz w) :
 CR 138 #[.int .i64 s,.string (Sn n)] w (Zv z):=by
 by_cases hn:n=0
 · subst hn
   obtain rfl:z=0:=by rw[hz];simp
   rw[tY];exact tZ s w hl
 · have h:=u7 s n hn w
   rcases hs with rfl|rfl
   · rw[show z=(n:Int) by omega,fZ hn];exact h
   · rw[show z = -(n:Int) by omega,gm hn];exact h
open Go.Lib (hid)
def vldZ (l:List UInt8):Bool:=match l with
 | []=>false
 | c :: t=>if c=45 then vld t && !(t==[48]) else vld (c :: t)
def zval (l:List UInt8):Int:=match l with
 | []=>0
 | c :: t=>if c=45 then -(aK t:Int) else (aK (c :: t):Int)
theorem jD {n:Nat}:∃ c t,Lib.decDigits n=c :: t∧c≠45:=by
 cases h:Lib.decDigits n with
 | nil=>exact absurd h (iI n)
 | cons c t =>
   refine⟨c,t,rfl,?_⟩;have h1:=iR n;rw[h]at h1;simp only[List.all_cons,Bool.and_eq_true]at h1;have h2:=(eT c).1 h1.1;intro h3;subst h3;simp at h2
theorem pF (n:Nat):vldZ (Lib.decDigits n)=true:=by
 obtain⟨c,t,h,hc⟩:=jD (n:=n);have hv:=mR n;rw[h]at hv ⊢;unfold vldZ
 simp only[if_neg hc,hv]
theorem mh (n:Nat):zval (Lib.decDigits n)=(n:Int):=by
 obtain⟨c,t,h,hc⟩:=jD (n:=n);have hv:=fJ n;rw[h]at hv ⊢;unfold zval
 simp only[if_neg hc,hv]
theorem z5j {n:Nat}(h:Lib.decDigits n=[48]):n=0:=by rw[← fJ n,h];rfl
theorem z16 {n:Nat}(hn:n≠0):vldZ (45 :: Lib.decDigits n)=true:=by
 have h:(Lib.decDigits n==[48])=false:=beq_eq_false_iff_ne.2 (fun h=>hn (z5j h));unfold vldZ
 simp[mR n,h]
theorem z0W (n:Nat):zval (45 :: Lib.decDigits n) = -(n:Int):=by
 unfold zval
 simp[fJ n]
theorem yN {a:ByteArray}(h:vldZ a.data.toList=true):a=Sz (zval a.data.toList):=by
 cases a with
 | mk d =>
   cases hl:d.toList with
   | nil=>simp[hl,vldZ]at h
   | cons c t =>
     simp only[hl]at h ⊢;by_cases hc:c=45
     · subst hc
       simp only[vldZ,if_true,Bool.and_eq_true]at h;obtain⟨h1,h2⟩:=h;have hd:=jF t h1
       have hne:aK t≠0:=by
        intro h0;rw[h0,Lib.decDigits_one (by decide)]at hd;rw[← hd]at h2;simp at h2
       have e:zval (45 :: t) = -(aK t:Int):=by simp[zval]
       rw[e,iZ hne,hd,← hl]
     · simp only[vldZ,if_neg hc]at h
       have hd:=jF (c :: t) h;have e:zval (c :: t)=(aK (c :: t):Int):=by simp[zval,hc]
       rw[e,dK];unfold Sn
       rw[hd,← hl]
theorem z4f (z:Int):vldZ (Sz z).data.toList=true:=by
 rcases bR z with⟨n,hn,rfl⟩|rfl|⟨n,hn,rfl⟩
 · rw[iZ hn];simpa using z16 hn
 · rw[show Sz 0=Sn 0 from dK 0,bW];exact pF 0
 · rw[dK,bW];exact pF n
theorem vI (z:Int):zval (Sz z).data.toList=z:=by
 rcases bR z with⟨n,hn,rfl⟩|rfl|⟨n,hn,rfl⟩
 · rw[iZ hn];simpa using z0W n
 · rw[show Sz 0=Sn 0 from dK 0,bW];exact mh 0
 · rw[dK,bW];exact mh n
theorem uL (l:List UInt8)(w:World) :
 Calls Tryz.prog 136 #[.string ⟨(45 :: l).toArray⟩,.string ⟨#[45]⟩] w fun e w'=>e=.returned (.tuple #[.string ⟨l.toArray⟩,.bool true])∧w=w':=by
 refine(Tryz.strings_CutPrefix _ _ w).mono ?_;rintro e w' ⟨rfl,rfl⟩;refine⟨?_,rfl⟩;simp[Lib.trimPrefix,Lib.hasPrefix,List.isPrefixOf]
theorem z0x (s:ByteArray)(h:∀ t,s.data.toList≠45 :: t)(w:World) :
 Calls Tryz.prog 136 #[.string s,.string ⟨#[45]⟩] w fun e w'=>e=.returned (.tuple #[.string s,.bool false])∧w=w':=by
 refine(Tryz.strings_CutPrefix _ _ w).mono ?_;rintro e w' ⟨rfl,rfl⟩;refine⟨?_,rfl⟩
 have hp:Lib.hasPrefix s.data.toList [45]=false:=by
  unfold Lib.hasPrefix
  cases hl:s.data.toList with
  | nil=>rfl
  | cons c t =>
    have:¬ 45=c:=by intro hc;subst hc;exact h t hl
    simp[List.isPrefixOf,this]
 have e:(⟨#[45]⟩:ByteArray).data.toList=[45]:=rfl;rw[e,hp];unfold Lib.trimPrefix
 rw[hp];cases s
 simp
def Zno:Value:=.agg #[.int .i64 0,.string ⟨#[]⟩]
theorem z1z (n:Nat)(hn:n≠0)(hf:Fit n)(w:World) :
 CR 120 #[.string ⟨(45 :: Lib.decDigits n).toArray⟩] w (.tuple #[.agg #[.int .i64 (-1),.string (Sn n)],.bool true]):=by
 have HC:=hid (uL (Lib.decDigits n));rw[show(⟨(Lib.decDigits n).toArray⟩:ByteArray)=Sn n from rfl]at HC;have HV:=hid (z2Z n hf);have h0:=yV hn;clear hn hf;go_enter func120,ntmps120
 go_wp2_with fail
 refine(HC.out _).mono ?_;rintro e w' ⟨rfl,rfl⟩;go_wp2_with fail
 refine(HV.out _).mono ?_;rintro e w' ⟨rfl,rfl⟩;go_wp2;refine bodyPost_ret (v:=.tuple #[.agg #[.int .i64 (-1),.string (Sn n)],.bool true]) (by simp[results,results120,go_sem]) rfl ⟨rfl,?_⟩;repeat (first|exact Below.refl _ _|refine Below.setCell ?_ (by simp) _|refine Below.alloc ?_ (by simp) _|refine Below.drew ?_)
theorem z5d {n:Nat}:∀ t,(Sn n).data.toList≠45 :: t:=by
 intro t h;rw[bW]at h;obtain⟨c,t',h2,hc⟩:=jD (n:=n);rw[h2]at h;injection h with h3 h4
 exact hc h3
theorem vR (n:Nat)(hf:Fit n)(w:World)(hl:Zz w) :
 CR 120 #[.string (Sn n)] w (.tuple #[Zv (n:Int),.bool true]):=by
 have HC:=hid (z0x (Sn n) z5d);have HV:=hid (z2Z n hf);have hb0:=(Below.refl w.heap.size w).alloc (Nat.le_refl _) (.cells #[.int .i64 0,.string ⟨#[]⟩] 155);have HS:=hid (l9 1 n (n:Int) (by omega) (Or.inl rfl) _ (hl.on hb0));unfold Zv at *
 generalize (n:Int).sign=s at *;generalize Sn (n:Int).natAbs=b at *;clear hf hl hb0;go_enter func120,ntmps120
 go_wp2_with fail
 refine(HC.out _).mono ?_;rintro e w' ⟨rfl,rfl⟩;go_wp2_with fail
 refine(HV.out _).mono ?_;rintro e w' ⟨rfl,rfl⟩;go_wp2_with fail
 refine HS.out.mono ?_;rintro e w1 ⟨rfl,hb1⟩;have HB:=hid (((Below.refl w.heap.size w).alloc (Nat.le_refl _) (.cells #[.int .i64 0,.string ⟨#[]⟩] 155)).trans (hb1.mono (by simp)));obtain⟨hc,hf⟩:=eU hb1;have hz:w.heap.size<w1.heap.size:=by have:=hb1.size;simp at this;omega
 clear hb1;go_wp2;refine bodyPost_ret (v:=.tuple #[.agg #[.int .i64 s,.string b],.bool true]) (by simp[results,results120,go_sem,hc]) rfl ⟨rfl,?_⟩;repeat (first|exact HB.out|refine Below.setCell ?_ (by simp) _|refine Below.alloc ?_ (by simp) _|refine Below.drew ?_)
theorem ky (z:Int)(hf:FitZ z)(w:World)(hl:Zz w) :
 CR 120 #[.string (Sz z)] w (.tuple #[Zv z,.bool true]):=by
 rcases bR z with⟨n,hn,rfl⟩|rfl|⟨n,hn,rfl⟩
 · rw[iZ hn,gm hn];exact z1z n hn hf.neg w
 · rw[show Sz 0=Sn 0 from dK 0];exact vR 0 fit0 w hl
 · rw[dK];exact vR n hf.nat w hl
theorem zt (l:List UInt8)(h:vld l=false)(hs:l.length≤maxLen)(w:World) :
 CR 120 #[.string ⟨(45 :: l).toArray⟩] w (.tuple #[Zno,.bool false]):=by
 have HC:=hid (uL l);have HV:=hid (mH ⟨l.toArray⟩ (by simpa using h) (by simpa [ByteArray.size] using hs));clear h hs;go_enter func120,ntmps120
 go_wp2_with fail
 refine(HC.out _).mono ?_;rintro e w' ⟨rfl,rfl⟩;go_wp2_with fail
 refine(HV.out _).mono ?_;rintro e w' ⟨rfl,rfl⟩;go_wp2;refine bodyPost_ret (v:=.tuple #[Zno,.bool false]) (by simp[results,results120,go_sem,Zno]) rfl ⟨rfl,?_⟩;repeat (first|exact Below.refl _ _|refine Below.setCell ?_ (by simp) _|refine Below.alloc ?_ (by simp) _|refine Below.drew ?_)
theorem zq (w:World) :
 CR 120 #[.string ⟨(45 :: [48]).toArray⟩] w (.tuple #[Zno,.bool false]):=by
 have HC:=hid (uL [48]);have HV:=hid (bK ⟨#[48]⟩ (by decide +kernel) (by decide));go_enter func120,ntmps120
 go_wp2_with fail
 refine(HC.out _).mono ?_;rintro e w' ⟨rfl,rfl⟩;go_wp2_with fail
 refine(HV.out _).mono ?_;rintro e w' ⟨rfl,rfl⟩;go_wp2;refine bodyPost_ret (v:=.tuple #[Zno,.bool false]) (by simp[results,results120,go_sem,Zno]) rfl ⟨rfl,?_⟩;repeat (first|exact Below.refl _ _|refine Below.setCell ?_ (by simp) _|refine Below.alloc ?_ (by simp) _|refine Below.drew ?_)
theorem rO (s:ByteArray)(h0:∀ t,s.data.toList≠45 :: t)(h:vld s.data.toList=false)(hs:s.size≤maxLen)(w:World) :
 CR 120 #[.string s] w (.tuple #[Zno,.bool false]):=by
 have HC:=hid (z0x s h0);have HV:=hid (mH s h hs);clear h hs h0;go_enter func120,ntmps120
 go_wp2_with fail
 refine(HC.out _).mono ?_;rintro e w' ⟨rfl,rfl⟩;go_wp2_with fail
 refine(HV.out _).mono ?_;rintro e w' ⟨rfl,rfl⟩;go_wp2;refine bodyPost_ret (v:=.tuple #[Zno,.bool false]) (by simp[results,results120,go_sem,Zno]) rfl ⟨rfl,?_⟩;repeat (first|exact Below.refl _ _|refine Below.setCell ?_ (by simp) _|refine Below.alloc ?_ (by simp) _|refine Below.drew ?_)
theorem z3p (s:ByteArray)(h:vldZ s.data.toList=false)(hs:s.size≤maxLen)(w:World) :
 CR 120 #[.string s] w (.tuple #[Zno,.bool false]):=by
 cases s with
 | mk d =>
   cases hl:d.toList with
   | nil =>
     refine rO ⟨d⟩ (fun t=>by simp[hl]) (by simp[hl,vld]) hs w
   | cons c t =>
     by_cases hc:c=45
     · subst hc
       have hd:d=(45 :: t).toArray:=by rw[← hl]
       have ht:t.length≤maxLen:=by
        have:d.size=t.length+1:=by rw[← Array.length_toList,hl];simp
        simp[ByteArray.size]at hs;omega
       simp only[hl,vldZ,if_true,Bool.and_eq_false_iff]at h;rw[hd];rcases h with h|h
       · exact zt t h ht w
       · obtain rfl:t=[48]:=by simpa using h
         exact zq w
     · refine rO ⟨d⟩ (fun t'=>?_) ?_ hs w
       · simp only[hl];intro h2;injection h2 with h3 h4;exact hc h3
       · simp only[hl,vldZ,if_neg hc]at h ⊢;exact h
theorem dH (z:Int)(hf:FitZ z)(w:World)(hl:Zz w) :
 CR 101 #[.string (Sz z)] w (.bool true):=by
 have HR:=hid (ky z hf w hl);unfold Zv at HR
 generalize z.sign=s at *;generalize Sn z.natAbs=b at *;clear hf hl;go_enter func101,ntmps101
 go_wp2_with fail
 refine HR.out.mono ?_;rintro e w1 ⟨rfl,hb1⟩;have HB:=hid hb1;clear hb1;go_wp2;go_ret
 refine⟨rfl,?_⟩;repeat (first|exact HB.out|refine Below.setCell ?_ (by have:=HB.out.size;simp;omega) _|refine Below.alloc ?_ (by have:=HB.out.size;simp;omega) _|refine Below.drew ?_)
theorem mK (a:ByteArray)(h:vldZ a.data.toList=false)(hs:a.size≤maxLen)(w:World) :
 CR 101 #[.string a] w (.bool false):=by
 have HR:=hid (z3p a h hs w);unfold Zno at HR
 clear h hs;go_enter func101,ntmps101
 go_wp2_with fail
 refine HR.out.mono ?_;rintro e w1 ⟨rfl,hb1⟩;have HB:=hid hb1;clear hb1;go_wp2;go_ret
 refine⟨rfl,?_⟩;repeat (first|exact HB.out|refine Below.setCell ?_ (by have:=HB.out.size;simp;omega) _|refine Below.alloc ?_ (by have:=HB.out.size;simp;omega) _|refine Below.drew ?_)
end Go.Proofs.YtlgkolkcokaefaaGreatDoor
open Go.Lib (hid)
namespace Go.Proofs.YtlgkolkcokaefaaGreatDoor
open Go.RowKit Go.Gb
def Nb (w:World) (g:Nat) (s:Int) (b:ByteArray):Prop:=w.heap[g]? = some (.cells #[.int .i64 s,.string b] 155 (0,0))
theorem Nb.lt {w:World}{g:Nat}{s:Int}{b:ByteArray}(h:Nb w g s b):g<w.heap.size:=(Array.getElem?_eq_some_iff.1 h).1
theorem Nb.below {w w':World}{g:Nat}{s:Int}{b:ByteArray}(h:Nb w g s b)(hb:Below w.heap.size w w'):Nb w' g s b:=by
 unfold Nb at *
 rw[hb.block g (Array.getElem?_eq_some_iff.1 h).1];exact h
theorem Nb.new (w:World)(s:Int)(b:ByteArray):Nb (w.alloc (.cells #[.int .i64 s,.string b] 155)) w.heap.size s b:=by
 unfold Nb;rw[heap_alloc_new]
theorem Nb.alloc {w:World}{g:Nat}{s:Int}{b:ByteArray}(h:Nb w g s b)(o:Obj):Nb (w.alloc o) g s b:=h.below ((Below.refl _ _).alloc (Nat.le_refl _) o)
theorem Nb.c0 {w:World}{g:Nat}{s:Int}{b:ByteArray}(h:Nb w g s b):w.cell? ⟨g,0,none⟩=some (.int .i64 s):=by
 unfold Nb at h;simp[World.cell?,h]
theorem Nb.c1 {w:World}{g:Nat}{s:Int}{b:ByteArray}(h:Nb w g s b):w.cell? ⟨g,1,none⟩=some (.string b):=by
 unfold Nb at h;simp[World.cell?,h]
theorem Nb.f {w:World}{g:Nat}{s:Int}{b:ByteArray}(h:Nb w g s b)(i:Nat):w.frozen? ⟨g,i,none⟩=false:=by
 unfold Nb at h;simp only[World.frozen?,h];simp
theorem pY (a1 a2:ByteArray)(s t:Int)(b c:ByteArray)(o1 o2:Bool)(w:World)
 (h1:∀ W,Below w.heap.size w W→CR 120 #[.string a1] W (.tuple #[.agg #[.int .i64 s,.string b],.bool o1]))
 (h2:∀ W,Below w.heap.size w W→CR 120 #[.string a2] W (.tuple #[.agg #[.int .i64 t,.string c],.bool o2])) :
 CR 168 #[.string a1,.string a2] w (.tuple #[.agg #[.int .i64 s,.string b],.agg #[.int .i64 t,.string c],.bool (o1&&o2)]):=by
 have HX:=hid h1;have HY:=hid h2;clear h1 h2;have HB0:=hid (((Below.refl w.heap.size w).alloc (Nat.le_refl _) (.cells #[.int .i64 0,.string ⟨#[]⟩] 155)).alloc (by simp) (.cells #[.int .i64 0,.string ⟨#[]⟩] 155));have HN4:=hid ((Nb.new w 0 ⟨#[]⟩).alloc (.cells #[.int .i64 0,.string ⟨#[]⟩] 155));have HN5:=Nb.new (w.alloc (.cells #[.int .i64 0,.string ⟨#[]⟩] 155)) 0 ⟨#[]⟩;rw[World.size_alloc]at HN5;have HN5:=hid HN5;go_enter func168,ntmps168
 go_wp2_with fail
 refine(HX.out _ HB0.out).mono ?_;rintro e w1 ⟨rfl,hb1⟩;obtain ⟨HB1,HN4,HN5,HN7⟩:=aG ((HB0.out.trans (hb1.mono HB0.out.size)).alloc (HB0.out.trans (hb1.mono HB0.out.size)).size (.cells #[.int .i64 s,.string b] 155)) ((HN4.out.below hb1).alloc (.cells #[.int .i64 s,.string b] 155)) ((HN5.out.below hb1).alloc (.cells #[.int .i64 s,.string b] 155)) (Nb.new w1 s b);have hz1:=hid (show w.heap.size+1<w1.heap.size by have:=hb1.size;simp at this;omega);clear hb1;go_wp2_with fail
 refine(HY.out _ HB1.out).mono ?_;rintro e w2 ⟨rfl,hb2⟩;have HB2:=HB1.out.trans (hb2.mono HB1.out.size);obtain ⟨HB3,HN4,HN5,HN7,HN9⟩:=aO (HB2.alloc HB2.size (.cells #[.int .i64 t,.string c] 155)) ((HN4.out.below hb2).alloc (.cells #[.int .i64 t,.string c] 155)) ((HN5.out.below hb2).alloc (.cells #[.int .i64 t,.string c] 155)) ((HN7.out.below hb2).alloc (.cells #[.int .i64 t,.string c] 155)) (Nb.new w2 t c);have hz2:=hid (show w1.heap.size<w2.heap.size by have:=hb2.size;simp at this;omega);clear hb2 HB2;go_wp2;have hz1:=hz1.out;have hz2:=hz2.out;have c40:=HN4.out.c0;have c41:=HN4.out.c1;have f4:=HN4.out.f;have c50:=HN5.out.c0;have c51:=HN5.out.c1;have f5:=HN5.out.f;have c70:=HN7.out.c0;have c71:=HN7.out.c1;have c90:=HN9.out.c0;have c91:=HN9.out.c1;generalize w2.alloc (.cells #[.int .i64 t,.string c] 155)=W3 at *;have hlt:w2.heap.size<W3.heap.size:=HN9.out.lt;obtain⟨g4,hg4⟩:∃ g,g=w.heap.size:=⟨_,rfl⟩;obtain⟨g5,hg5⟩:∃ g,g=w.heap.size+1:=⟨_,rfl⟩;obtain⟨g7,hg7⟩:∃ g,g=w1.heap.size:=⟨_,rfl⟩;obtain⟨g9,hg9⟩:∃ g,g=w2.heap.size:=⟨_,rfl⟩;rw[← hg4]at c40 c41;rw[← hg5]at c50 c51;rw[← hg7]at c70 c71;rw[← hg9]at c90 c91;rw[← hg5,← hg4,← hg7,← hg9];have n1:g7≠g4:=by omega
 have n2:g9≠g4:=by omega
 have n3:g7≠g5:=by omega
 have n4:g9≠g5:=by omega
 have n5:g5≠g4:=by omega
 have f40:=f4 0;have f41:=f4 1;have f50:=f5 0;have f51:=f5 1;rw[← hg4]at f40 f41;rw[← hg5]at f50 f51;have hle4:=hid (show w.heap.size≤g4 by omega);have hle5:=hid (show w.heap.size≤g5 by omega);clear f4 f5 hg4 hg5 hg7 hg9 hz1 hz2 hlt;cases o1
 · go_region
   all_goals
    go_wp2;refine bodyPost_ret (v:=.tuple #[.agg #[.int .i64 s,.string b],.agg #[.int .i64 t,.string c],.bool (false&&o2)]) (by simp[results,results168,go_sem,c40,c41,c50,c51]) rfl ⟨rfl,?_⟩;repeat (first|exact HB3.out|refine Below.setCell ?_ (by first|exact hle4.out|exact hle5.out) _|refine Below.drew ?_)
 · go_region
   all_goals
    go_wp2;refine bodyPost_ret (v:=.tuple #[.agg #[.int .i64 s,.string b],.agg #[.int .i64 t,.string c],.bool (true&&o2)]) (by simp[results,results168,go_sem,c40,c41,c50,c51]) rfl ⟨rfl,?_⟩;repeat (first|exact HB3.out|refine Below.setCell ?_ (by first|exact hle4.out|exact hle5.out) _|refine Below.drew ?_)
theorem gU (x y:Int)(hx:FitZ x)(hy:FitZ y)(w:World)(hl:Zz w) :
 CR 168 #[.string (Sz x),.string (Sz y)] w (.tuple #[Zv x,Zv y,.bool true]) :=
 pY (Sz x) (Sz y) _ _ _ _ true true w (fun W hW=>ky x hx W (hl.on hW)) (fun W hW=>ky y hy W (hl.on hW))
open Go.Lib (hid)
def Zr (s:Int) (n:Nat):Value:=.agg #[.int .i64 s,.string (Sn n)]
theorem lW (s t:Int)(m n k:Nat)(hk:m+n=k)(hm:Fit m)(hn:Fit n)(w:World)(htab:Tb w) :
 CR 206 #[Zr s m,Zr t n] w (Zr s k):=by
 subst hk;have hb0:=((((Below.refl w.heap.size w).alloc (Nat.le_refl _) (.cells #[.int .i64 s,.string (Sn m)] 155)).alloc (by simp) (.cells #[.int .i64 t,.string (Sn n)] 155)).alloc (by simp;omega) (.cells #[.int .i64 0,.string ⟨#[]⟩] 155));have HC:=hid (nAdd m n hm hn _ (htab.on hb0));have HB0:=hid hb0;unfold Zr
 generalize m+n=k at *;clear hm hn htab hb0;go_enter func206,ntmps206
 go_wp2_with fail
 refine HC.out.mono ?_;rintro e w1 ⟨rfl,hb1⟩;have HB:=hbt HB0 hb1;obtain⟨hc,hf⟩:=eU hb1;have hz:w.heap.size+2<w1.heap.size:=by have:=hb1.size;simp at this;omega
 clear hb1;go_wp2;refine bodyPost_ret (v:=.agg #[.int .i64 s,.string (Sn k)]) (by simp[results,results206,go_sem,hc]) rfl ⟨rfl,?_⟩;repeat (first|exact HB.out|refine Below.setCell ?_ (by simp<;>omega) _|refine Below.alloc ?_ (by simp<;>omega) _|refine Below.drew ?_)
theorem rY (s t r:Int)(m n k:Nat)(hr:s*t=r)(hk:m*n=k)(hs : -1≤r∧r≤1)(hm:Fit m)(hn:Fit n)(w:World)(htab:Tb w) :
 CR 171 #[Zr s m,Zr t n] w (Zr r k):=by
 subst hk;have hb0:=((((Below.refl w.heap.size w).alloc (Nat.le_refl _) (.cells #[.int .i64 s,.string (Sn m)] 155)).alloc (by simp) (.cells #[.int .i64 t,.string (Sn n)] 155)).alloc (by simp;omega) (.cells #[.int .i64 0,.string ⟨#[]⟩] 155));have HC:=hid (nMul m n hm hn _ (htab.on hb0));have HB0:=hid hb0;unfold Zr
 generalize m*n=k at *;have h1:=hs.1;have h2:=hs.2;clear hm hn htab hb0 hs;go_enter func171,ntmps171
 go_wp2_with fail
 refine HC.out.mono ?_;rintro e w1 ⟨rfl,hb1⟩;have HB:=hbt HB0 hb1;obtain⟨hc,hf⟩:=eU hb1;have hz:w.heap.size+2<w1.heap.size:=by have:=hb1.size;simp at this;omega
 clear hb1;go_wp2;refine bodyPost_ret (v:=.agg #[.int .i64 r,.string (Sn k)]) (by simp[results,results171,go_sem,hc]) rfl ⟨rfl,?_⟩;repeat (first|exact HB.out|refine Below.setCell ?_ (by simp<;>omega) _|refine Below.alloc ?_ (by simp<;>omega) _|refine Below.drew ?_)
theorem qO (t:Int)(b:ByteArray)(w:World)(hl:Zz w) :
 CR 205 #[.agg #[.int .i64 0,.string ⟨#[48]⟩],.agg #[.int .i64 t,.string b]] w (.agg #[.int .i64 t,.string b]):=by
 obtain⟨h0,h1,h2⟩:=hl;have n1:1<w.heap.size+1+1:=by omega
 have n2:1<w.heap.size+1:=by omega
 go_enter func205,ntmps205
 go_wp2;refine bodyPost_ret (v:=.agg #[.int .i64 t,.string b]) (by simp[results,results205,go_sem]) rfl ⟨rfl,?_⟩;repeat (first|exact Below.refl _ _|refine Below.setCell ?_ (by simp<;>omega) _|refine Below.alloc ?_ (by simp<;>omega) _|refine Below.drew ?_)
theorem jL (s:Int)(hs:s≠0)(b:ByteArray)(v:ByteArray)(t:Int)(w:World)(hl:Zz w) :
 CR 205 #[.agg #[.int .i64 s,.string b],.agg #[.int .i64 t,.string v]] w (.agg #[.int .i64 s,.string b]):=by
 obtain⟨h0,h1,h2⟩:=hl;have n1:1<w.heap.size+1+1:=by omega
 have n2:1<w.heap.size+1:=by omega
 have hs1:(s==0)=false:=by simpa using hs
 have hs2:¬ s=0:=hs;go_enter func205,ntmps205
 go_wp2;refine bodyPost_ret (v:=.agg #[.int .i64 s,.string b]) (by simp[results,results205,go_sem]) rfl ⟨rfl,?_⟩;repeat (first|exact Below.refl _ _|refine Below.setCell ?_ (by simp<;>omega) _|refine Below.alloc ?_ (by simp<;>omega) _|refine Below.drew ?_)
theorem nS (s t:Int)(n:Nat)(h1 : -1≤t)(h2:t≤1)(hst:s = -t)(w:World)(hl:Zz w) :
 CR 204 #[Zr s n,Zr t n] w (.agg #[.int .i64 0,.string ⟨#[48]⟩]):=by
 have HN:=hid (fun W=>fu t (Sn n) h1 h2 W);rw[← hst]at HN;unfold Zr
 have hb0:=((((Below.refl w.heap.size w).alloc (Nat.le_refl _) (.cells #[.int .i64 s,.string (Sn n)] 155)).alloc (by simp) (.cells #[.int .i64 t,.string (Sn n)] 155)).alloc (by simp;omega) (.cells #[.int .i64 0,.string ⟨#[]⟩] 155));have HB0:=hid hb0;obtain⟨z0,z1,z2⟩:=hl.on hb0;clear hst h1 h2 hb0;go_enter func204,ntmps204
 go_wp2;go_region_with (go_at_call 207;go_must (refine(HN.out _).mono ?_;rintro e w1 ⟨rfl,hb1⟩;obtain⟨hc1,hf1⟩:=eU hb1;have hz1:w.heap.size+2<w1.heap.size:=by have:=hb1.size;simp at this;omega))
 all_goals
  go_wp2;refine bodyPost_ret (v:=.agg #[.int .i64 0,.string ⟨#[48]⟩]) (by simp[results,results204,go_sem,hc1]) rfl ⟨rfl,?_⟩;repeat (first|exact HB0.out.trans (hb1.mono HB0.out.size)|exact HB0.out.drew.trans (hb1.mono HB0.out.drew.size)|refine Below.setCell ?_ (by simp<;>omega) _|refine Below.alloc ?_ (by simp<;>omega) _|refine Below.drew ?_)
end Go.Proofs.YtlgkolkcokaefaaGreatDoor
