/- texts -/
import Derived.Test.YteihfbkaieemdaaGreatDoorIj
import Derived.Test.YteihfbkaieemdaaGreatDoorMz17q
import Derived.Test.YteihfbkaieemdaaGreatDoorQd
open Go.Proofs.Tryz
set_option maxRecDepth 100000
set_option maxHeartbeats 20000000
open Go.Lib (hid)
namespace Go.Proofs.YteihfbkaieemdaaGreatDoor
open Go.RowKit Go.Gb
theorem vO (a1 a2:ByteArray)(s t q1 q2:Int)(b c d1 d2 r1 r2:ByteArray)(ht:t≠0)(w:World)(hl:Zz w)
 (hread:CR 144 #[.string a1,.string a2] w (.tuple #[.agg #[.int .i64 s,.string b],.agg #[.int .i64 t,.string c],.bool true]))
 (hop:∀ W,Below w.heap.size w W→CR 145 #[.agg #[.int .i64 s,.string b],.agg #[.int .i64 t,.string c]] W (.tuple #[.agg #[.int .i64 q1,.string d1],.agg #[.int .i64 q2,.string d2]]))
 (hs1:CQ 146 #[.agg #[.int .i64 q1,.string d1]] (.string r1))
 (hs2:CQ 146 #[.agg #[.int .i64 q2,.string d2]] (.string r2)) :
 CR 114 #[.string a1,.string a2] w (.tuple #[.string r1,.string r2,.int .i64 0]):=by
 obtain ⟨HR,HO,HS1,HS2,HZ⟩:=bI hread hop hs1 hs2 hl;have ht1:(t==0)=false:=by simpa using ht
 clear hread hop hs1 hs2 hl;go_enter func114,ntmps114
 go_wp2_with fail
 refine HR.o.mono ?_;rintro e w1 ⟨rfl,hb1⟩;have u6:=hid ((hb1.alloc hb1.size (.cells #[.int .i64 s,.string b] 160)).alloc (by have:=hb1.size;simp;omega) (.cells #[.int .i64 t,.string c] 160));obtain⟨z0,z1,z2⟩:=HZ.o.on u6.o;clear hb1;go_wp2_with fail
 refine(HO.o _ u6.o).mono ?_;rintro e w2 ⟨rfl,hb2⟩;have w9:=hid (((u6.o.trans (hb2.mono u6.o.size)).alloc (u6.o.trans (hb2.mono u6.o.size)).size (.cells #[.int .i64 q1,.string d1] 160)).alloc (by have:=(u6.o.trans (hb2.mono u6.o.size)).size;simp;omega) (.cells #[.int .i64 q2,.string d2] 160));clear hb2 z0 z1 z2;go_wp2;go_region_with (first|(go_at_call 146;(with_reducible refine(HS1.o _).mono ?_);rintro e w3 ⟨rfl,hb3⟩;have wm:Below w.heap.size w w3:=(by first|exact w9.o.trans (hb3.mono w9.o.size)|exact w9.o.drew.trans (hb3.mono w9.o.drew.size));obtain⟨hc3,hf3⟩:=fO hb3)|(go_at_call 146;(with_reducible refine(HS2.o _).mono ?_);rintro e w4 ⟨rfl,hb4⟩;have wu:Below w.heap.size w w4:=(wm.trans (hb4.mono wm.size))))
 all_goals
  clear hb3 hb4;go_wp2;go_ret3
  exact⟨rfl,wu⟩
theorem kE (x y:Int)(hy:y≠0)(Q R:Int)(hQ:Q=if 0≤x∨x.natAbs%y.natAbs=0 then x.sign*(y.sign*((x.natAbs / y.natAbs:Nat):Int)) else -(y.sign*((x.natAbs / y.natAbs:Nat):Int))-y.sign)
 (hR:R=if 0≤x∨x.natAbs%y.natAbs=0 then ((x.natAbs%y.natAbs:Nat):Int) else (y.natAbs:Int)-((x.natAbs%y.natAbs:Nat):Int)) :
 R+y*Q=x∧0≤R∧R<(y.natAbs:Int):=by
 have hn:0<y.natAbs:=by omega
 have hdm:=Nat.div_add_mod x.natAbs y.natAbs;have hml:=Nat.mod_lt x.natAbs hn
 have hp:(y.natAbs:Int)*((x.natAbs / y.natAbs:Nat):Int)+((x.natAbs%y.natAbs:Nat):Int)=(x.natAbs:Int):=by
  rw[← Int.natCast_mul,← Int.natCast_add,hdm]
 generalize hk:x.natAbs / y.natAbs=k at *;generalize hr:x.natAbs%y.natAbs=r at *
 have ys:(y.sign=1∧y=(y.natAbs:Int))∨(y.sign = -1∧y = -(y.natAbs:Int)):=by
  rcases cz y with⟨n,hn2,rfl⟩|rfl|⟨n,hn2,rfl⟩
  · right;rw[Int.sign_neg,Int.sign_natCast_of_ne_zero hn2];simp
  · exact absurd rfl hy
  · left;rw[Int.sign_natCast_of_ne_zero hn2];simp
 have xs:(x.sign=1∧x=(x.natAbs:Int)∧0≤x)∨(x.sign=0∧x=0∧x.natAbs=0)∨(x.sign = -1∧x = -(x.natAbs:Int)∧¬ 0≤x):=by
  rcases cz x with⟨n,hn,rfl⟩|rfl|⟨n,hn,rfl⟩
  · right;right;rw[Int.sign_neg,Int.sign_natCast_of_ne_zero hn];simp;omega
  · right;left;simp
  · left;rw[Int.sign_natCast_of_ne_zero hn];simp
 generalize y.natAbs=n at *;generalize x.natAbs=m at *;rcases ys with⟨e1,e2⟩|⟨e1,e2⟩<;>rcases xs with⟨f1,f2,f3⟩|⟨f1,f2,f3⟩|⟨f1,f2,f3⟩
 all_goals
  rw[e1]at hQ;rw[f1]at hQ;by_cases hc:0≤x∨r=0
  · rw[if_pos hc]at hQ hR
    refine⟨by rw[hQ,hR];first|grind|(rcases hc with hc|hc<;>grind),by omega,by omega⟩
  · rw[if_neg hc]at hQ hR
    refine⟨by rw[hQ,hR];grind,by omega,by omega⟩
theorem eu (x y:Int)(hy:y≠0)(Q R:Int)(h:R+y*Q=x∧0≤R∧R<(y.natAbs:Int)):x / y=Q∧x%y=R:=by
 rcases Int.lt_or_gt_of_ne hy with h0|h0
 · exact(Int.ediv_emod_unique' h0).2 ⟨h.1,h.2.1,by omega⟩
 · exact(Int.ediv_emod_unique h0).2 ⟨h.1,h.2.1,by omega⟩
theorem Fit.le {m n:Nat}(h:Fit n)(hm:m≤n):Fit m:=by unfold Fit at *;exact Sm.le h hm
theorem z0G {x:Int}{n:Nat}(h:Fit n)(hx:x.natAbs≤n):FitZ x:=by unfold FitZ;exact Fit.le h hx
theorem z2H (x y q r:Int)(hy:y≠0)(hq:x / y=q)(hr:x%y=r)(fx:FitZ x)(fy:FitZ y)(fq:Fit (x.natAbs+1))(w:World)(hl:La w) :
 CR 145 #[Zv x,Zv y] w (.tuple #[Zv q,Zv r]):=by
 have h:=eu x y hy _ _ (kE x y hy _ _ rfl rfl);rw[hq,hr]at h;exact vJ x y hy q r h.1 h.2 fx fy (Fit.le fq (Nat.succ_le_succ (Nat.div_le_self x.natAbs y.natAbs))) w hl
theorem quo_le (x y:Int)(hy:y≠0):(x / y).natAbs≤x.natAbs+1:=by
 obtain⟨h1,h2⟩:=eu x y hy _ _ (kE x y hy _ _ rfl rfl);rw[h1];have hk:=Nat.div_le_self x.natAbs y.natAbs;have ys:=Int.sign_trichotomy y;have xs:=Int.sign_trichotomy x;generalize x.natAbs / y.natAbs=k at *;generalize x.natAbs%y.natAbs=r at *;split
 · rcases ys with e|e|e<;>rcases xs with f|f|f<;>rw[e,f]<;>simp<;>omega
 · rcases ys with e|e|e<;>rw[e]<;>simp<;>omega
theorem ze (x y q r:Int)(hy:y≠0)(hq:x / y=q)(hr:x%y=r)(fx:FitZ x)(fy:FitZ y)(fq:Fit (x.natAbs+1))(w:World)(hl:La w) :
 CR 114 #[.string (Sz x),.string (Sz y)] w (.tuple #[.string (Sz q),.string (Sz r),.int .i64 0]):=by
 have fQ:FitZ q:=by
  rw[← hq];exact z0G fq (quo_le x y hy)
 have fR:FitZ r:=by
  have hf:=kE x y hy _ _ rfl rfl;have he:=(eu x y hy _ _ hf).2;rw[hr]at he;rw[← he]at hf;have h1:=hf.2.1;have h2:=hf.2.2;exact z0G fy (by omega)
 have hs:y.sign≠0:=fun h=>hy (Int.sign_eq_zero_iff_zero.1 h);have h1:=iF x y fx fy w hl.zz;have h2:=fun W (hW:Below w.heap.size w W)=>z2H x y q r hy hq hr fx fy fq W (hl.on hW);have h3:=fun W=>iU q fQ W;have h4:=fun W=>iU r fR W;unfold Zv at h1 h2 h3 h4
 exact vO _ _ _ _ _ _ _ _ _ _ _ _ hs w hl.zz h1 h2 h3 h4
def FitL (z:Int):Prop:=Sm 1900 z.natAbs
theorem FitL.z {z:Int}(h:FitL z):FitZ z:=by unfold FitZ Fit;exact Sm.mono (k:=1900) h (by decide)
theorem FitL.succ {z:Int}(h:FitL z):Fit (z.natAbs+1):=by
 have h1:Sm 1900 1:=(show Sm 1 1 by simp[Sm]).mono (by decide);unfold Fit;exact Sm.mono (Sm.add (show Sm 1900 z.natAbs from h) h1) (by decide)
theorem fl1:FitL 1:=(show Sm 1 1 by simp[Sm]).mono (by decide)
theorem FitL.of {k:Nat}{z:Int}(h:Sm k z.natAbs)(hk:k≤1900):FitL z:=h.mono hk
theorem FitL.neg {z:Int}(h:FitL z):FitL (-z):=by unfold FitL;rwa [Int.natAbs_neg]
theorem FitL.le {x y:Int}(h:FitL y)(hx:x.natAbs≤y.natAbs):FitL x:=Sm.le h hx
theorem FitL.nat {n:Nat}(h:Sm 1900 n):FitL (n:Int):=by unfold FitL;rwa [Int.natAbs_natCast]
theorem kH:Sz 1=⟨#[49]⟩:=by decide +kernel
theorem z3K:Sz 0=⟨#[48]⟩:=by decide +kernel
theorem z3j {x y:Int}(h:x≠y):((Sz x).toList==(Sz y).toList)=false:=by
 rw[beq_eq_false_iff_ne,toList_data,toList_data];intro h2;apply h
 rw[← wN x,h2,wN]
theorem jq {x:Int}(h:x≠1):((Sz x).toList==[49])=false:=by
 have:=z3j h;rw[kH,toList_data ⟨#[49]⟩]at this;exact this
theorem z3L {x:Int}(h:x≠0):((Sz x).toList==[48])=false:=by
 have:=z3j h;rw[z3K,toList_data ⟨#[48]⟩]at this;exact this
theorem zN (a:ByteArray)(s:Int)(w:World)
 (hc:CR 151 #[.string a] w (.tuple #[.int .i64 s,.int .i64 0])) :
 CR 121 #[.string a] w (.int .i64 s):=by
 have HC:=hid hc;clear hc;go_enter func121,ntmps121
 go_wp2_with fail
 refine HC.o.mono ?_;rintro e w1 ⟨rfl,hb⟩;go_wp2;go_ret
 exact⟨rfl,hb⟩
theorem z1G (a:ByteArray)(r:ByteArray)(w:World)
 (hc:CR 172 #[.string a] w (.tuple #[.string r,.int .i64 0])) :
 CR 148 #[.string a] w (.string r):=by
 have HC:=hid hc;clear hc;go_enter func148,ntmps148
 go_wp2_with fail
 refine HC.o.mono ?_;rintro e w1 ⟨rfl,hb⟩;go_wp2;go_ret
 exact⟨rfl,hb⟩
theorem ym (a:ByteArray)(b:ByteArray)(s:Int)(w:World)
 (hc:CR 154 #[.string a,.string b] w (.tuple #[.int .i64 s,.int .i64 0])) :
 CR 124 #[.string a,.string b] w (.int .i64 s):=by
 have HC:=hid hc;clear hc;go_enter func124,ntmps124
 go_wp2_with fail
 refine HC.o.mono ?_;rintro e w1 ⟨rfl,hb⟩;go_wp2;go_ret
 exact⟨rfl,hb⟩
theorem zO (a:ByteArray)(b:ByteArray)(r:ByteArray)(w:World)
 (hc:CR 159 #[.string a,.string b] w (.tuple #[.string r,.int .i64 0])) :
 CR 128 #[.string a,.string b] w (.string r):=by
 have HC:=hid hc;clear hc;go_enter func128,ntmps128
 go_wp2_with fail
 refine HC.o.mono ?_;rintro e w1 ⟨rfl,hb⟩;go_wp2;go_ret
 exact⟨rfl,hb⟩
theorem yj (a:ByteArray)(b:ByteArray)(r:ByteArray)(w:World)
 (hc:CR 155 #[.string a,.string b] w (.tuple #[.string r,.int .i64 0])) :
 CR 125 #[.string a,.string b] w (.string r):=by
 have HC:=hid hc;clear hc;go_enter func125,ntmps125
 go_wp2_with fail
 refine HC.o.mono ?_;rintro e w1 ⟨rfl,hb⟩;go_wp2;go_ret
 exact⟨rfl,hb⟩
theorem z1E (a:ByteArray)(b:ByteArray)(r r2:ByteArray)(w:World)(hb1:(b.toList==[49])=false)
 (hc:CR 114 #[.string a,.string b] w (.tuple #[.string r,.string r2,.int .i64 0])) :
 CR 127 #[.string a,.string b] w (.string r):=by
 have HC:=hid hc;clear hc;go_enter func127,ntmps127
 go_wp2_with fail
 refine HC.o.mono ?_;rintro e w1 ⟨rfl,hb⟩;go_wp2;go_ret
 exact⟨rfl,hb⟩
theorem nD (x s:Int)(hs:x.sign=s)(hx:FitL x)(w:World)(hl:La w) :
 CR 121 #[.string (Sz x)] w (.int .i64 s):=by
 subst hs;exact zN _ _ w (z5s x hx.z w hl)
theorem rneg (x y:Int)(h : -x=y)(hx:FitL x)(w:World)(hl:La w) :
 CR 148 #[.string (Sz x)] w (.string (Sz y)):=by
 subst h;exact z1G _ _ w (zNeg x hx.z w hl)
theorem z3r (x y c:Int)(hc:cmpZ x y=c)(hx:FitL x)(hy:FitL y)(w:World)(hl:La w) :
 CR 124 #[.string (Sz x),.string (Sz y)] w (.int .i64 c):=ym _ _ _ w (z1h x y c hc hx.z hy.z w hl)
theorem z5B (x y z:Int)(hz:x+y=z)(hx:FitL x)(hy:FitL y)(fz:FitL z)(w:World)(hl:La w) :
 CR 128 #[.string (Sz x),.string (Sz y)] w (.string (Sz z)):=zO _ _ _ w (zAdd x y z hz hx.z hy.z fz.z w hl)
theorem nC (x y z:Int)(hz:x*y=z)(hx:FitL x)(hy:FitL y)(fz:FitL z)(w:World)(hl:La w) :
 CR 125 #[.string (Sz x),.string (Sz y)] w (.string (Sz z)):=yj _ _ _ w (zMul x y z hz hx.z hy.z fz.z w hl)
theorem z1F (a:ByteArray)(w:World) :
 CR 127 #[.string a,.string ⟨#[49]⟩] w (.string a):=by
 go_enter func127,ntmps127
 go_wp2;go_ret
 exact⟨rfl,Below.refl _ _⟩
theorem rquo (x y q:Int)(hy:y≠0)(hq:x / y=q)(hx:FitL x)(fy:FitL y)(w:World)(hl:La w) :
 CR 127 #[.string (Sz x),.string (Sz y)] w (.string (Sz q)):=by
 by_cases h1:y=1
 · subst h1
   obtain rfl:x=q:=by rw[← hq,Int.ediv_one]
   rw[kH];exact z1F _ w
 · exact z1E _ _ _ _ w (jq h1) (ze x y q _ hy hq rfl hx.z fy.z hx.succ w hl)
theorem z3J (z:Int):(⟨(Lib.trimPrefix (Sz z).data.toList [45]).toArray⟩:ByteArray)=Sn z.natAbs:=by
 rcases cz z with⟨n,hn,rfl⟩|rfl|⟨n,hn,rfl⟩
 · rw[jr hn,Int.natAbs_neg,Int.natAbs_natCast]
   simp[Lib.trimPrefix,Lib.hasPrefix,List.isPrefixOf,Sn]
 · decide +kernel
 · rw[eD,Int.natAbs_natCast,dh]
   obtain⟨c,t,h,hc⟩:=jT (n:=n)
   have hp:Lib.hasPrefix (Lib.decDigits n) [45]=false:=by
    rw[h];have:¬ 45=c:=fun h2=>hc h2.symm;simp[Lib.hasPrefix,List.isPrefixOf,this]
   unfold Lib.trimPrefix
   rw[hp];rfl
theorem sP (z:Int)(hz:FitL z)(w:World) :
 Calls Tryz.prog 158 #[.string (Sz z)] w fun e w'=>∃ v,e=.returned v∧Own .u64 131 w.heap.size w' v (ae z.natAbs)∧Below w.heap.size w w':=by
 have HP:=hid (show ∀ W,Calls Tryz.prog 187 #[.string (Sz z),.string ⟨#[45]⟩] W fun e w'=>e=.returned (.string (Sn z.natAbs))∧W=w' from fun W=>by
  refine(Tryz.strings_TrimPrefix _ _ W).mono ?_;rintro e w' ⟨rfl,hw⟩;refine⟨?_,by first|exact hw.symm|exact hw⟩
  rw[show(⟨#[45]⟩:ByteArray).data.toList=[45]from rfl,z3J])
 have HR:=hid (gP (Sn z.natAbs) (by rw[dh];exact jk _) (by have:=(FitL.z hz).size;omega) w);rw[cZ]at HR;generalize Sz z=a at *;generalize Sn z.natAbs=b at *;clear hz;go_enter func158,ntmps158
 go_wp2_with fail
 refine(HP.o _).mono ?_;rintro e w' ⟨rfl,rfl⟩;go_wp2_with fail
 refine HR.o.mono ?_;rintro e w1 ⟨v,rfl,ho,hb⟩;have HO:=hid ho;clear ho;go_wp2;go_ret
 exact⟨v,rfl,HO.o,hb⟩
theorem uT (a b c:ByteArray)(x y g:Nat)(h1:(a.toList==[49])=false)(h2:(b.toList==[49])=false)(w:World)(hl:La w)
 (ha:∀ W,Calls Tryz.prog 158 #[.string a] W fun e w'=>∃ v,e=.returned v∧Own .u64 131 W.heap.size w' v (ae x)∧Below W.heap.size W w')
 (hb:∀ W,Calls Tryz.prog 158 #[.string b] W fun e w'=>∃ v,e=.returned v∧Own .u64 131 W.heap.size w' v (ae y)∧Below W.heap.size W w')
 (hok:∀ (v1 v2:Value) (w:World),Rd .u64 w v1 (ae x)→Rd .u64 w v2 (ae y)→Calls Tryz.prog 157 #[v1,v2] w fun e w'=>∃ v,e=.returned v∧Own .u64 131 w.heap.size w' v (ae g)∧Below w.heap.size w w')
 (hw:∀ (v:Value) (w:World),Rd .u64 w v (ae g)→Tb w→CR 156 #[v] w (.string c)) :
 CR 126 #[.string a,.string b] w (.string c):=by
 obtain ⟨HA,HB,HK,HW,HT⟩:=bI ha hb hok hw hl.tb;clear ha hb hok hw hl;go_enter func126,ntmps126
 go_wp2_with fail
 refine(HA.o _).mono ?_;rintro e w1 ⟨v1,rfl,ho1,hb1⟩;have u6:=hid hb1;have HO1:=hid ho1;clear hb1 ho1;go_wp2_with fail
 refine(HB.o _).mono ?_;rintro e w2 ⟨v2,rfl,ho2,hb2⟩;have w9:=hbt u6 hb2;have hm:=hid (HK.o v1 v2 w2 (HO1.o.rd.below hb2) ho2.rd);clear hb2 ho2;go_wp2_with fail
 refine hm.o.mono ?_;rintro e w3 ⟨v3,rfl,ho3,hb3⟩;have wm:=hbt w9 hb3;have hwr:=hid (HW.o v3 w3 ho3.rd (HT.o.on wm.o));clear hb3 ho3;go_wp2_with fail
 refine hwr.o.mono ?_;rintro e w4 ⟨rfl,hb4⟩;have wu:=hbt wm hb4;clear hb4;go_wp2;go_ret
 exact⟨rfl,wu.o⟩
theorem sV (b:ByteArray)(w:World) :
 CR 126 #[.string ⟨#[49]⟩,.string b] w (.string ⟨#[49]⟩):=by
 go_enter func126,ntmps126
 go_wp2;go_ret
 exact⟨rfl,Below.refl _ _⟩
theorem sU (a:ByteArray)(h1:(a.toList==[49])=false)(w:World) :
 CR 126 #[.string a,.string ⟨#[49]⟩] w (.string ⟨#[49]⟩):=by
 go_enter func126,ntmps126
 go_wp2;go_ret
 exact⟨rfl,Below.refl _ _⟩
theorem lh {z:Int}(h:FitL z):(ae z.natAbs).length≤70000:=Nat.le_trans (ib (show Sm 1900 z.natAbs from h) (by decide)) (by decide)
theorem jA (x y g:Int)(hg:((Nat.gcd x.natAbs y.natAbs:Nat):Int)=g)(hx:FitL x)(hy:FitL y)(w:World)(hl:La w) :
 CR 126 #[.string (Sz x),.string (Sz y)] w (.string (Sz g)):=by
 subst hg;by_cases h1:x=1
 · subst h1
   rw[show Nat.gcd (1:Int).natAbs y.natAbs=1 from Nat.gcd_one_left _,show((1:Nat):Int)=1 from rfl,kH];exact sV _ w
 · by_cases h2:y=1
   · subst h2
     rw[show Nat.gcd x.natAbs (1:Int).natAbs=1 from Nat.gcd_one_right _,show((1:Nat):Int)=1 from rfl,kH];exact sU _ (jq h1) w
   · have hlg:(ae (Nat.gcd x.natAbs y.natAbs)).length≤100000:=by
        rcases Nat.eq_zero_or_pos x.natAbs with h|h
        · rw[h,Nat.gcd_zero_left];exact Nat.le_trans (lh hy) (by decide)
        · exact Nat.le_trans (Nat.le_trans (aO (Nat.gcd_le_left _ h)) (lh hx)) (by decide)
     refine uT _ _ _ x.natAbs y.natAbs _ (jq h1) (jq h2) w hl (fun W=>sP x hx W) (fun W=>sP y hy W) (yX _ _ (lh hx) (lh hy)) (fun v W hr ht=>?_);rw[eD];exact jc v _ hlg W hr ht
end Go.Proofs.YteihfbkaieemdaaGreatDoor
open Go.Lib (hid)
namespace Go.Proofs.YteihfbkaieemdaaGreatDoor
open Go.RowKit Go.Gb
theorem z0S (c:UInt8)(s:ByteArray)(hs:s.size≤100000)(w:World) :
 CR 150 #[.string s,.string ⟨#[c]⟩] w (.tuple #[.string ⟨(Lib.cut s.data.toList [c]).1.toArray⟩,.string ⟨(Lib.cut s.data.toList [c]).2.1.toArray⟩,.bool (Lib.cut s.data.toList [c]).2.2]):=by
 have hdl:(⟨#[c]⟩:ByteArray).data.toList=[c]:=rfl;have hsz:(⟨#[c]⟩:ByteArray).size=1:=rfl;rcases Lib.indexB_cases s ⟨#[c]⟩with hix|⟨i,hix,hroom⟩
 · have h3:=Lib.cutB_miss s ⟨#[c]⟩ hix
   rw[hdl]at h3;obtain⟨e1,e2,e3⟩:=h3;rw[e1,e2,e3];have hb:Lib.indexByte s.data.toList c = -1:=by rw[← Lib.index_one];exact hix
   have HI:=hid (fun W=>Tryz.stringslite_Index_one s c W);rw[hb]at HI;clear hix hb e1 e2 e3 hdl hsz;go_enter func150,ntmps150
   go_wp2_with fail
   refine(HI.o _).mono ?_;rintro e w' ⟨rfl,rfl⟩;go_wp2;go_ret3
   exact⟨rfl,Below.refl _ _⟩
 · have h3:=Lib.cutB_hit s ⟨#[c]⟩ i hix
   rw[hdl]at h3;obtain⟨e1,e2,e3⟩:=h3;rw[e1,e2,e3];have hb:Lib.indexByte s.data.toList c=i:=by rw[← Lib.index_one];exact hix
   have HI:=hid (fun W=>Tryz.stringslite_Index_one s c W);rw[hb]at HI;have c1:(0:Int) ≤ ↑i:=by omega
   have c2:(↑i:Int) ≤ ↑s.size:=by omega
   have c3:(0:Int) ≤ ↑i+1:=by omega
   have c4:(↑i+1:Int) ≤ ↑s.size:=by omega
   have c5:(↑s.size:Int)≤100000:=by omega
   have c6:IntKind.i64.wrap ((i:Int)+1)=(i:Int)+1:=IntWalk.i64_in _ (by omega);rw[hsz];clear hix hb e1 e2 e3 hdl hsz hroom;go_enter func150,ntmps150
   go_wp2_with fail
   refine(HI.o _).mono ?_;rintro e w' ⟨rfl,rfl⟩;go_wp2;go_region
   go_wp2;go_ret3
   exact⟨rfl,(Below.refl _ _).drew⟩
theorem cut1 (c:UInt8)(s:ByteArray)(hs:s.size≤100000)(w:World) :
 CR 120 #[.string s,.string ⟨#[c]⟩] w (.tuple #[.string ⟨(Lib.cut s.data.toList [c]).1.toArray⟩,.string ⟨(Lib.cut s.data.toList [c]).2.1.toArray⟩,.bool (Lib.cut s.data.toList [c]).2.2]):=by
 have HC:=hid (z0S c s hs w);clear hs;generalize (⟨(Lib.cut s.data.toList [c]).1.toArray⟩:ByteArray)=a at *;generalize (⟨(Lib.cut s.data.toList [c]).2.1.toArray⟩:ByteArray)=b at *;generalize (Lib.cut s.data.toList [c]).2.2=f at *;go_enter func120,ntmps120
 go_wp2_with fail
 refine HC.o.mono ?_;rintro e w1 ⟨rfl,hb⟩;go_wp2;go_ret3
 exact⟨rfl,hb⟩
theorem lJ (a:ByteArray)(h:a.size≤18)(w:World) :
 Calls Tryz.prog 152 #[.string a] w fun e w'=>e=.returned (.bool true)∧w=w':=by
 have h1:(a.size:Int)≤18:=by omega
 clear h;go_enter func152,ntmps152
 go_wp2;go_ret
 exact⟨rfl,rfl⟩
theorem sW (a:ByteArray)(h:18<a.size)(w:World) :
 Calls Tryz.prog 152 #[.string a] w fun e w'=>e=.returned (.bool false)∧w=w':=by
 have h1:decide ((a.size:Int)≤18)=false:=by rw[decide_eq_false_iff_not];omega
 clear h;go_enter func152,ntmps152
 go_wp2;go_ret
 exact⟨by first|rfl|(rw[h1]),rfl⟩
theorem pF (z:Int)(hs:(Sz z).size≤18)(w:World) :
 CR 131 #[.string (Sz z)] w (.int .i64 z):=by
 have HP:=hid (z1P hs);have HM:=hid (show(Sz z).size≤9223372036854775806 by omega);generalize Sz z=s at *;clear hs;go_enter func131,ntmps131
 go_wp2_with fail
 refine(Tryz.strconv_ParseInt_10_at64_ok s HM.o _ HP.o _).mono ?_;rintro e w' ⟨rfl,hw⟩
 have hb:Below w.heap.size w w':=by
  rcases hw with rfl|⟨t,rfl⟩
  · exact Below.refl _ _
  · exact Lib.bytesWorld_below w _ t
 clear hw;go_wp2;go_ret
 exact⟨rfl,hb⟩
theorem z0d (a:Int):max a (-a)=(a.natAbs:Int):=by omega
theorem rgcd (a b:Int)(ha:a.natAbs<4611686018427387904)(hb:b.natAbs<4611686018427387904)(w:World) :
 CR 132 #[.int .i64 a,.int .i64 b] w (.int .i64 ((Nat.gcd a.natAbs b.natAbs:Nat):Int)):=by
 have m1:=z0d a;have m2:=z0d b;have w1:IntKind.i64.wrap (-a) = -a:=IntWalk.i64_in _ (by omega);have w2:IntKind.i64.wrap (-b) = -b:=IntWalk.i64_in _ (by omega);obtain⟨x,hx⟩:∃ x:Nat,a.natAbs=x:=⟨_,rfl⟩;obtain⟨y,hy⟩:∃ y:Nat,b.natAbs=y:=⟨_,rfl⟩;rw[hx]at m1;rw[hy]at m2;rw[hx,hy];have HX:=hid (show x<4611686018427387904 by omega);have HY:=hid (show y<4611686018427387904 by omega);obtain⟨g,hg⟩:∃ g:Nat,Nat.gcd x y=g:=⟨_,rfl⟩;rw[hg];have HG:=hid hg;clear hx hy hg ha hb;go_enter func132,ntmps132
 go_wp2;clear m1 m2 w1 w2;go_loopw [0,1] (fun u v W=>∃ p q:Nat,Hid (p<4611686018427387904∧q<4611686018427387904∧Nat.gcd p q=g)∧Below w.heap.size w W∧u=.int .i64 p∧v=.int .i64 q) (fun _ v _=>(intOf v).toNat)
 case atStart=>exact⟨x,y,hid ⟨HX.o,HY.o,HG.o⟩,Below.refl _ _,rfl,rfl⟩
 case round =>
  obtain⟨p,q,hr,hB,rfl,rfl⟩:=hrel;have HB:=hid hB;clear hB;by_cases hq:0<q
  · have hq1:(0:Int)<(q:Int):=by omega
    have hq2:¬ (q:Int)=0:=by omega
    have hp1:(p:Int)<4611686018427387904:=by have:=hr.o.1;omega
    have hp2:(0:Int)≤(p:Int):=by omega
    have hq3:(q:Int)<4611686018427387904:=by have:=hr.o.2.1;omega
    go_wp2;go_region
    all_goals
        go_wp2;go_roundw
        case rel=>exact⟨q,p%q,hid ⟨by omega,by have:=Nat.mod_lt p hq;omega,by rw[Nat.gcd_comm,← Nat.gcd_rec,Nat.gcd_comm];exact hr.o.2.2⟩,HB.o.drew,rfl,by go_num⟩
        case measure=>have:=Nat.mod_lt p hq;simp[intOf];omega
  · obtain rfl:q=0:=by omega
    have hg:=hr.o.2.2;rw[Nat.gcd_zero_right]at hg;subst hg;go_wp2;go_ret
    exact⟨rfl,HB.o⟩
open Go.Lib (hid)
theorem lQ (a b:ByteArray)(x y g:Int)(r:Bool)(hr:(g==1)=r)(w:World)
 (h1:∀ W,Calls Tryz.prog 152 #[.string a] W fun e w'=>e=.returned (.bool true)∧W=w') (h2:∀ W,Calls Tryz.prog 152 #[.string b] W fun e w'=>e=.returned (.bool true)∧W=w')
 (h3:CQ 131 #[.string a] (.int .i64 x)) (h4:CQ 131 #[.string b] (.int .i64 y))
 (h5:CQ 132 #[.int .i64 x,.int .i64 y] (.int .i64 g)) :
 CR 122 #[.string a,.string b] w (.bool r):=by
 obtain ⟨C1,C2,C3,C4,C5,wo,HR⟩:=dJ h1 h2 h3 h4 h5 (Below.refl w.heap.size w) hr;clear h1 h2 h3 h4 h5 hr;go_enter func122,ntmps122
 go_wp2_with fail
 refine(C1.o _).mono ?_;rintro e w' ⟨rfl,rfl⟩;go_wp2_with fail
 refine(C2.o _).mono ?_;rintro e w' ⟨rfl,rfl⟩;go_wp2_with fail
 refine(C3.o _).mono ?_;rintro e w1 ⟨rfl,hb⟩;have u6:=hbt wo hb;clear hb;go_wp2_with fail
 refine(C4.o _).mono ?_;rintro e w2 ⟨rfl,hb⟩;have w9:=hbt u6 hb;clear hb;go_wp2_with fail
 refine(C5.o _).mono ?_;rintro e w3 ⟨rfl,hb⟩;have wm:=hbt w9 hb;clear hb;go_wp2;go_ret
 exact⟨by rw[← HR.o];rfl,wm.o⟩
theorem lT (a b g:ByteArray)(r:Bool)(hr:(g.toList==[49])=r)(w:World)(hl:La w)
 (h1:∀ W,Calls Tryz.prog 152 #[.string a] W fun e w'=>e=.returned (.bool false)∧W=w')
 (h3:CL 126 #[.string a,.string b] (.string g)) :
 CR 122 #[.string a,.string b] w (.bool r):=by
 obtain ⟨C1,C3,wo,HL,HR⟩:=bI h1 h3 (Below.refl w.heap.size w) hl hr;clear h1 h3 hr hl;go_enter func122,ntmps122
 go_wp2_with fail
 refine(C1.o _).mono ?_;rintro e w' ⟨rfl,rfl⟩;go_wp2_with fail
 refine(C3.o _ (HL.o.on wo.o)).mono ?_;rintro e w1 ⟨rfl,hb⟩;have u6:=hbt wo hb;clear hb;go_wp2;go_ret
 exact⟨by rw[← HR.o];rfl,u6.o⟩
theorem lS (a b g:ByteArray)(r:Bool)(hr:(g.toList==[49])=r)(w:World)(hl:La w)
 (h1:∀ W,Calls Tryz.prog 152 #[.string a] W fun e w'=>e=.returned (.bool true)∧W=w') (h2:∀ W,Calls Tryz.prog 152 #[.string b] W fun e w'=>e=.returned (.bool false)∧W=w')
 (h3:CL 126 #[.string a,.string b] (.string g)) :
 CR 122 #[.string a,.string b] w (.bool r):=by
 obtain ⟨C1,C2,C3,wo,HL,HR⟩:=cK h1 h2 h3 (Below.refl w.heap.size w) hl hr;clear h1 h2 h3 hr hl;go_enter func122,ntmps122
 go_wp2_with fail
 refine(C1.o _).mono ?_;rintro e w' ⟨rfl,rfl⟩;go_wp2_with fail
 refine(C2.o _).mono ?_;rintro e w' ⟨rfl,rfl⟩;go_wp2_with fail
 refine(C3.o _ (HL.o.on wo.o)).mono ?_;rintro e w1 ⟨rfl,hb⟩;have u6:=hbt wo hb;clear hb;go_wp2;go_ret
 exact⟨by rw[← HR.o];rfl,u6.o⟩
theorem zG {z:Int}(h:(Sz z).size≤18):z.natAbs<4611686018427387904:=by
 have h1:z.natAbs<10^18:=jw h;omega
theorem xc (x y:Int)(r:Bool)(hr:(Nat.gcd x.natAbs y.natAbs==1)=r)(hx:FitL x)(hy:FitL y)(w:World)(hl:La w) :
 CR 122 #[.string (Sz x),.string (Sz y)] w (.bool r):=by
 have hlong:((Sz ((Nat.gcd x.natAbs y.natAbs:Nat):Int)).toList==[49])=r:=by
  rw[← hr];by_cases h:Nat.gcd x.natAbs y.natAbs=1
  · rw[h,show((1:Nat):Int)=1 from rfl,kH,toList_data];rfl
  · rw[jq (by omega)];simpa using h
 by_cases h1:(Sz x).size≤18
 · by_cases h2:(Sz y).size≤18
   · refine lQ _ _ x y ((Nat.gcd x.natAbs y.natAbs:Nat):Int) r ?_ w (fun W=>lJ _ h1 W) (fun W=>lJ _ h2 W) (fun W=>pF x h1 W) (fun W=>pF y h2 W) (fun W=>rgcd x y (zG h1) (zG h2) W)
     rw[← hr,Bool.eq_iff_iff];simp
     omega
   · exact lS _ _ _ r hlong w hl (fun W=>lJ _ h1 W) (fun W=>sW _ (by omega) W) (fun W hW=>jA x y _ rfl hx hy W hW)
 · exact lT _ _ _ r hlong w hl (fun W=>sW _ (by omega) W) (fun W hW=>jA x y _ rfl hx hy W hW)
theorem yG (a:ByteArray)(w:World) :
 CR 98 #[.agg #[.string a,.string ⟨#[49]⟩]] w (.string a):=by
 go_enter func98,ntmps98
 go_wp2;go_ret
 exact⟨rfl,(Below.refl _ _).alloc (Nat.le_refl _) _⟩
theorem vD (a b:ByteArray)(h1:(b.toList==[49])=false)(ha:a.size≤10000)(hb:b.size≤10000)(w:World) :
 CR 98 #[.agg #[.string a,.string b]] w (.string (a++⟨#[47]⟩++b)):=by
 have s1:(⟨#[47]⟩:ByteArray).size=1:=rfl;have s2:(a++⟨#[47]⟩:ByteArray).size=a.size+1:=by rw[ByteArray.size_append,s1]
 have e1:=run_string_add_sum (P:=Tryz.prog) (w.alloc (.cells #[.string a,.string b] 103)) a ⟨#[47]⟩ (by rw[s1];omega);have e2:=run_string_add_sum (P:=Tryz.prog) (w.alloc (.cells #[.string a,.string b] 103)) (a++⟨#[47]⟩) b (by rw[s2];omega);clear s1 s2 ha hb;go_enter func98,ntmps98
 go_wp2;go_ret
 exact⟨rfl,(Below.refl _ _).alloc (Nat.le_refl _) _⟩
theorem tZ (q:Rat)(hn:FitL q.num)(hd:FitL (q.den:Int))(w:World) :
 CR 98 #[.agg #[.string (Sz q.num),.string (Sz (q.den:Int))]] w (.string (Sq q)):=by
 by_cases h:q.den=1
 · rw[h,jv h,show((1:Nat):Int)=1 from rfl,kH]
   exact yG _ w
 · have h2:=vD (Sz q.num) (Sz (q.den:Int)) (jq (by omega)) (by have:=ku hn (by decide);omega) (by have:=ku hd (by decide);omega) w
   have e:Sz q.num++⟨#[47]⟩++Sz (q.den:Int)=Sq q:=by
    rw[qA h,eD];apply ByteArray.ext
    apply Array.ext'
    simp[Sn]
   rw[e]at h2;exact h2
theorem mr (a n d:ByteArray)(r:Bool)(w:World)(hl:La w)
 (h1:CQ 120 #[.string a,.string ⟨#[47]⟩] (.tuple #[.string n,.string d,.bool false]))
 (h2:CL 115 #[.string n] (.bool r)) :
 CR 84 #[.string a] w (.tuple #[.agg #[.string n,.string ⟨#[49]⟩],.bool r]):=by
 have C1:=hid h1;have C2:=hid h2;obtain⟨w0,hw0⟩:∃ w0:World,w0=(w.alloc (.cells #[.string ⟨#[]⟩,.string ⟨#[]⟩] 103)):=⟨_,rfl⟩;have hz0:w0.heap.size=w.heap.size+1:=by rw[hw0];simp
 have hB0:Below w.heap.size w w0:=by
  rw[hw0];repeat (first|exact Below.refl _ _|refine Below.setCell ?_ (by first|omega|(simp;omega)|simp) _|refine Below.alloc ?_ (by first|omega|(simp;omega)|simp) _|refine Below.drew ?_)
 have hS0:w0.cell? ⟨w.heap.size,0,none⟩=some (.string ⟨#[]⟩)∧w0.cell? ⟨w.heap.size,1,none⟩=some (.string ⟨#[]⟩):=by rw[hw0];exact⟨((aC).trans rfl),((aC).trans rfl)⟩
 have KS:=hid (show ∀ W:World,Below w0.heap.size w0 W→(W.cell? ⟨w.heap.size,0,none⟩=some (.string ⟨#[]⟩)∧W.cell? ⟨w.heap.size,1,none⟩=some (.string ⟨#[]⟩)) from fun W hB=>by
  obtain⟨c0,c1⟩:=hS0
  exact⟨(hB.cell (p:=⟨w.heap.size,0,none⟩) (by show w.heap.size<_;omega)).trans c0,(hB.cell (p:=⟨w.heap.size,1,none⟩) (by show w.heap.size<_;omega)).trans c1⟩)
 have KZ:=hid (show ∀ W:World,Below w0.heap.size w0 W→w.heap.size+1≤W.heap.size from fun W hB=>by have:=hB.size;omega);have KB:=hid (show ∀ W:World,Below w0.heap.size w0 W→Below w.heap.size w W from fun W hB=>hB0.trans (hB.mono (by omega)));have hR0:w0.cell? ⟨w.heap.size,0,none⟩=some (.string ⟨#[]⟩)∧w0.cell? ⟨w.heap.size,1,none⟩=some (.string ⟨#[]⟩)∧w0.frozen? ⟨w.heap.size,0,none⟩=false∧w0.frozen? ⟨w.heap.size,1,none⟩=false:=by rw[hw0];exact⟨((aC).trans rfl),((aC).trans rfl),(aX),(aX)⟩
 have KR:=hid (show ∀ W:World,Below w0.heap.size w0 W→(W.cell? ⟨w.heap.size,0,none⟩=some (.string ⟨#[]⟩)∧W.cell? ⟨w.heap.size,1,none⟩=some (.string ⟨#[]⟩)∧W.frozen? ⟨w.heap.size,0,none⟩=false∧W.frozen? ⟨w.heap.size,1,none⟩=false) from fun W hB=>by
  obtain⟨c0,c1,f0,f1⟩:=hR0
  exact⟨(hB.cell (p:=⟨w.heap.size,0,none⟩) (by show w.heap.size<_;omega)).trans c0,(hB.cell (p:=⟨w.heap.size,1,none⟩) (by show w.heap.size<_;omega)).trans c1,(hB.frozen (p:=⟨w.heap.size,0,none⟩) (by show w.heap.size<_;omega)).trans f0,(hB.frozen (p:=⟨w.heap.size,1,none⟩) (by show w.heap.size<_;omega)).trans f1⟩)
 clear hR0;have F0:=hid (Below.refl w0.heap.size w0);have HW0:=hid hw0;clear hz0 hB0 hS0 hw0;have HL:=hid (show ∀ W:World,Below w0.heap.size w0 W→La W from fun W hB=>hl.on (KB.o W hB));clear hl h1 h2;go_enter func84,ntmps84
 go_wp2_with fail
 rw[← HW0.o];obtain⟨d0,d1⟩:=KS.o _ F0.o;go_wp2_with fail
 refine(C1.o _).mono ?_;rintro e w1 ⟨rfl,hb⟩;have F1:=hid (ai F0.o hb);clear hb d0 d1;obtain⟨d0,d1⟩:=KS.o _ F1.o;go_wp2_with fail
 refine(C2.o _ (HL.o _ F1.o)).mono ?_;rintro e w2 ⟨rfl,hb⟩;have F2:=hid (ai F1.o hb);clear hb d0 d1;obtain⟨d0,d1⟩:=KS.o _ F2.o
 all_goals
  obtain⟨m0,m1,n0,n1⟩:=KR.o _ F2.o;have hz:=KZ.o _ F2.o;go_wp2;refine bodyPost_ret (v:=.tuple #[.agg #[.string n,.string ⟨#[49]⟩],.bool r]) (by simp[results,results84,go_sem,m0,m1]) rfl ⟨rfl,?_⟩;repeat (first|exact KB.o _ F2.o|refine Below.setCell ?_ (by first|omega|(simp;omega)|simp) _|refine Below.alloc ?_ (by first|omega|(simp;omega)|simp) _|refine Below.drew ?_)
theorem kQ (a n d:ByteArray)(s:Int)(r:Bool)(hd1:(d.toList==[49])=false)(hs:1≤s)(w:World)(hl:La w)
 (h1:CQ 120 #[.string a,.string ⟨#[47]⟩] (.tuple #[.string n,.string d,.bool true]))
 (h2:CL 115 #[.string n] (.bool true))
 (h3:CL 115 #[.string d] (.bool true))
 (h4:CL 121 #[.string d] (.int .i64 s))
 (h5:CL 122 #[.string n,.string d] (.bool r)) :
 CR 84 #[.string a] w (.tuple #[.agg #[.string n,.string d],.bool r]):=by
 obtain ⟨C1,C2,C3,C4,C5⟩:=bI h1 h2 h3 h4 h5;obtain⟨w0,hw0⟩:∃ w0:World,w0=(w.alloc (.cells #[.string ⟨#[]⟩,.string ⟨#[]⟩] 103)):=⟨_,rfl⟩;have hz0:w0.heap.size=w.heap.size+1:=by rw[hw0];simp
 have hB0:Below w.heap.size w w0:=by
  rw[hw0];repeat (first|exact Below.refl _ _|refine Below.setCell ?_ (by first|omega|(simp;omega)|simp) _|refine Below.alloc ?_ (by first|omega|(simp;omega)|simp) _|refine Below.drew ?_)
 have hS0:w0.cell? ⟨w.heap.size,0,none⟩=some (.string ⟨#[]⟩)∧w0.cell? ⟨w.heap.size,1,none⟩=some (.string ⟨#[]⟩):=by rw[hw0];exact⟨((aC).trans rfl),((aC).trans rfl)⟩
 have KS:=hid (show ∀ W:World,Below w0.heap.size w0 W→(W.cell? ⟨w.heap.size,0,none⟩=some (.string ⟨#[]⟩)∧W.cell? ⟨w.heap.size,1,none⟩=some (.string ⟨#[]⟩)) from fun W hB=>by
  obtain⟨c0,c1⟩:=hS0
  exact⟨(hB.cell (p:=⟨w.heap.size,0,none⟩) (by show w.heap.size<_;omega)).trans c0,(hB.cell (p:=⟨w.heap.size,1,none⟩) (by show w.heap.size<_;omega)).trans c1⟩)
 have KZ:=hid (show ∀ W:World,Below w0.heap.size w0 W→w.heap.size+1≤W.heap.size from fun W hB=>by have:=hB.size;omega);have KB:=hid (show ∀ W:World,Below w0.heap.size w0 W→Below w.heap.size w W from fun W hB=>hB0.trans (hB.mono (by omega)));have hR0:w0.cell? ⟨w.heap.size,0,none⟩=some (.string ⟨#[]⟩)∧w0.cell? ⟨w.heap.size,1,none⟩=some (.string ⟨#[]⟩)∧w0.frozen? ⟨w.heap.size,0,none⟩=false∧w0.frozen? ⟨w.heap.size,1,none⟩=false:=by rw[hw0];exact⟨((aC).trans rfl),((aC).trans rfl),(aX),(aX)⟩
 have KR:=hid (show ∀ W:World,Below w0.heap.size w0 W→(W.cell? ⟨w.heap.size,0,none⟩=some (.string ⟨#[]⟩)∧W.cell? ⟨w.heap.size,1,none⟩=some (.string ⟨#[]⟩)∧W.frozen? ⟨w.heap.size,0,none⟩=false∧W.frozen? ⟨w.heap.size,1,none⟩=false) from fun W hB=>by
  obtain⟨c0,c1,f0,f1⟩:=hR0
  exact⟨(hB.cell (p:=⟨w.heap.size,0,none⟩) (by show w.heap.size<_;omega)).trans c0,(hB.cell (p:=⟨w.heap.size,1,none⟩) (by show w.heap.size<_;omega)).trans c1,(hB.frozen (p:=⟨w.heap.size,0,none⟩) (by show w.heap.size<_;omega)).trans f0,(hB.frozen (p:=⟨w.heap.size,1,none⟩) (by show w.heap.size<_;omega)).trans f1⟩)
 clear hR0;have F0:=hid (Below.refl w0.heap.size w0);have HW0:=hid hw0;clear hz0 hB0 hS0 hw0;have HL:=hid (show ∀ W:World,Below w0.heap.size w0 W→La W from fun W hB=>hl.on (KB.o W hB));clear hl h1 h2 h3 h4 h5;go_enter func84,ntmps84
 have hs1:decide (s<1)=false:=by rw[decide_eq_false_iff_not];omega
 clear hs;go_wp2_with fail
 rw[← HW0.o];obtain⟨d0,d1⟩:=KS.o _ F0.o;go_wp2_with fail
 refine(C1.o _).mono ?_;rintro e w1 ⟨rfl,hb⟩;have F1:=hid (ai F0.o hb);clear hb d0 d1;obtain⟨d0,d1⟩:=KS.o _ F1.o;go_wp2_with fail
 refine(C2.o _ (HL.o _ F1.o)).mono ?_;rintro e w2 ⟨rfl,hb⟩;have F2:=hid (ai F1.o hb);clear hb d0 d1;obtain⟨d0,d1⟩:=KS.o _ F2.o;go_wp2_with fail
 refine(C3.o _ (HL.o _ F2.o)).mono ?_;rintro e w3 ⟨rfl,hb⟩;have F3:=hid (ai F2.o hb);clear hb d0 d1;obtain⟨d0,d1⟩:=KS.o _ F3.o;go_wp2_with fail
 refine(C4.o _ (HL.o _ F3.o)).mono ?_;rintro e w4 ⟨rfl,hb⟩;have F4:=hid (ai F3.o hb);clear hb d0 d1;obtain⟨d0,d1⟩:=KS.o _ F4.o;go_wp2_with fail
 refine(C5.o _ (HL.o _ F4.o)).mono ?_;rintro e w5 ⟨rfl,hb⟩;have F5:=hid (ai F4.o hb);clear hb d0 d1;obtain⟨d0,d1⟩:=KS.o _ F5.o
 all_goals
  obtain⟨m0,m1,n0,n1⟩:=KR.o _ F5.o;have hz:=KZ.o _ F5.o;go_wp2;refine bodyPost_ret (v:=.tuple #[.agg #[.string n,.string d],.bool r]) (by simp[results,results84,go_sem,m0,m1]) rfl ⟨rfl,?_⟩;repeat (first|exact KB.o _ F5.o|refine Below.setCell ?_ (by first|omega|(simp;omega)|simp) _|refine Below.alloc ?_ (by first|omega|(simp;omega)|simp) _|refine Below.drew ?_)
theorem qJ (a n d:ByteArray)(w:World)(hl:La w)
 (h1:CQ 120 #[.string a,.string ⟨#[47]⟩] (.tuple #[.string n,.string d,.bool true]))
 (h2:CL 115 #[.string n] (.bool false)) :
 CR 84 #[.string a] w (.tuple #[.agg #[.string ⟨#[]⟩,.string ⟨#[]⟩],.bool false]):=by
 have C1:=hid h1;have C2:=hid h2;obtain⟨w0,hw0⟩:∃ w0:World,w0=(w.alloc (.cells #[.string ⟨#[]⟩,.string ⟨#[]⟩] 103)):=⟨_,rfl⟩;have hz0:w0.heap.size=w.heap.size+1:=by rw[hw0];simp
 have hB0:Below w.heap.size w w0:=by
  rw[hw0];repeat (first|exact Below.refl _ _|refine Below.setCell ?_ (by first|omega|(simp;omega)|simp) _|refine Below.alloc ?_ (by first|omega|(simp;omega)|simp) _|refine Below.drew ?_)
 have hS0:w0.cell? ⟨w.heap.size,0,none⟩=some (.string ⟨#[]⟩)∧w0.cell? ⟨w.heap.size,1,none⟩=some (.string ⟨#[]⟩):=by rw[hw0];exact⟨((aC).trans rfl),((aC).trans rfl)⟩
 have KS:=hid (show ∀ W:World,Below w0.heap.size w0 W→(W.cell? ⟨w.heap.size,0,none⟩=some (.string ⟨#[]⟩)∧W.cell? ⟨w.heap.size,1,none⟩=some (.string ⟨#[]⟩)) from fun W hB=>by
  obtain⟨c0,c1⟩:=hS0
  exact⟨(hB.cell (p:=⟨w.heap.size,0,none⟩) (by show w.heap.size<_;omega)).trans c0,(hB.cell (p:=⟨w.heap.size,1,none⟩) (by show w.heap.size<_;omega)).trans c1⟩)
 have KZ:=hid (show ∀ W:World,Below w0.heap.size w0 W→w.heap.size+1≤W.heap.size from fun W hB=>by have:=hB.size;omega);have KB:=hid (show ∀ W:World,Below w0.heap.size w0 W→Below w.heap.size w W from fun W hB=>hB0.trans (hB.mono (by omega)));have hR0:w0.cell? ⟨w.heap.size,0,none⟩=some (.string ⟨#[]⟩)∧w0.cell? ⟨w.heap.size,1,none⟩=some (.string ⟨#[]⟩)∧w0.frozen? ⟨w.heap.size,0,none⟩=false∧w0.frozen? ⟨w.heap.size,1,none⟩=false:=by rw[hw0];exact⟨((aC).trans rfl),((aC).trans rfl),(aX),(aX)⟩
 have KR:=hid (show ∀ W:World,Below w0.heap.size w0 W→(W.cell? ⟨w.heap.size,0,none⟩=some (.string ⟨#[]⟩)∧W.cell? ⟨w.heap.size,1,none⟩=some (.string ⟨#[]⟩)∧W.frozen? ⟨w.heap.size,0,none⟩=false∧W.frozen? ⟨w.heap.size,1,none⟩=false) from fun W hB=>by
  obtain⟨c0,c1,f0,f1⟩:=hR0
  exact⟨(hB.cell (p:=⟨w.heap.size,0,none⟩) (by show w.heap.size<_;omega)).trans c0,(hB.cell (p:=⟨w.heap.size,1,none⟩) (by show w.heap.size<_;omega)).trans c1,(hB.frozen (p:=⟨w.heap.size,0,none⟩) (by show w.heap.size<_;omega)).trans f0,(hB.frozen (p:=⟨w.heap.size,1,none⟩) (by show w.heap.size<_;omega)).trans f1⟩)
 clear hR0;have F0:=hid (Below.refl w0.heap.size w0);have HW0:=hid hw0;clear hz0 hB0 hS0 hw0;have HL:=hid (show ∀ W:World,Below w0.heap.size w0 W→La W from fun W hB=>hl.on (KB.o W hB));clear hl h1 h2;go_enter func84,ntmps84
 go_wp2_with fail
 rw[← HW0.o];obtain⟨d0,d1⟩:=KS.o _ F0.o;go_wp2_with fail
 refine(C1.o _).mono ?_;rintro e w1 ⟨rfl,hb⟩;have F1:=hid (ai F0.o hb);clear hb d0 d1;obtain⟨d0,d1⟩:=KS.o _ F1.o;go_wp2_with fail
 refine(C2.o _ (HL.o _ F1.o)).mono ?_;rintro e w2 ⟨rfl,hb⟩;have F2:=hid (ai F1.o hb);clear hb d0 d1;obtain⟨d0,d1⟩:=KS.o _ F2.o
 all_goals
  obtain⟨m0,m1,n0,n1⟩:=KR.o _ F2.o;have hz:=KZ.o _ F2.o;go_wp2;refine bodyPost_ret (v:=.tuple #[.agg #[.string ⟨#[]⟩,.string ⟨#[]⟩],.bool false]) (by simp[results,results84,go_sem,m0,m1]) rfl ⟨rfl,?_⟩;repeat (first|exact KB.o _ F2.o|refine Below.setCell ?_ (by first|omega|(simp;omega)|simp) _|refine Below.alloc ?_ (by first|omega|(simp;omega)|simp) _|refine Below.drew ?_)
theorem qI (a n d:ByteArray)(w:World)(hl:La w)
 (h1:CQ 120 #[.string a,.string ⟨#[47]⟩] (.tuple #[.string n,.string d,.bool true]))
 (h2:CL 115 #[.string n] (.bool true))
 (h3:CL 115 #[.string d] (.bool false)) :
 CR 84 #[.string a] w (.tuple #[.agg #[.string ⟨#[]⟩,.string ⟨#[]⟩],.bool false]):=by
 obtain ⟨C1,C2,C3⟩:=ak h1 h2 h3;obtain⟨w0,hw0⟩:∃ w0:World,w0=(w.alloc (.cells #[.string ⟨#[]⟩,.string ⟨#[]⟩] 103)):=⟨_,rfl⟩;have hz0:w0.heap.size=w.heap.size+1:=by rw[hw0];simp
 have hB0:Below w.heap.size w w0:=by
  rw[hw0];repeat (first|exact Below.refl _ _|refine Below.setCell ?_ (by first|omega|(simp;omega)|simp) _|refine Below.alloc ?_ (by first|omega|(simp;omega)|simp) _|refine Below.drew ?_)
 have hS0:w0.cell? ⟨w.heap.size,0,none⟩=some (.string ⟨#[]⟩)∧w0.cell? ⟨w.heap.size,1,none⟩=some (.string ⟨#[]⟩):=by rw[hw0];exact⟨((aC).trans rfl),((aC).trans rfl)⟩
 have KS:=hid (show ∀ W:World,Below w0.heap.size w0 W→(W.cell? ⟨w.heap.size,0,none⟩=some (.string ⟨#[]⟩)∧W.cell? ⟨w.heap.size,1,none⟩=some (.string ⟨#[]⟩)) from fun W hB=>by
  obtain⟨c0,c1⟩:=hS0
  exact⟨(hB.cell (p:=⟨w.heap.size,0,none⟩) (by show w.heap.size<_;omega)).trans c0,(hB.cell (p:=⟨w.heap.size,1,none⟩) (by show w.heap.size<_;omega)).trans c1⟩)
 have KZ:=hid (show ∀ W:World,Below w0.heap.size w0 W→w.heap.size+1≤W.heap.size from fun W hB=>by have:=hB.size;omega);have KB:=hid (show ∀ W:World,Below w0.heap.size w0 W→Below w.heap.size w W from fun W hB=>hB0.trans (hB.mono (by omega)));have hR0:w0.cell? ⟨w.heap.size,0,none⟩=some (.string ⟨#[]⟩)∧w0.cell? ⟨w.heap.size,1,none⟩=some (.string ⟨#[]⟩)∧w0.frozen? ⟨w.heap.size,0,none⟩=false∧w0.frozen? ⟨w.heap.size,1,none⟩=false:=by rw[hw0];exact⟨((aC).trans rfl),((aC).trans rfl),(aX),(aX)⟩
 have KR:=hid (show ∀ W:World,Below w0.heap.size w0 W→(W.cell? ⟨w.heap.size,0,none⟩=some (.string ⟨#[]⟩)∧W.cell? ⟨w.heap.size,1,none⟩=some (.string ⟨#[]⟩)∧W.frozen? ⟨w.heap.size,0,none⟩=false∧W.frozen? ⟨w.heap.size,1,none⟩=false) from fun W hB=>by
  obtain⟨c0,c1,f0,f1⟩:=hR0
  exact⟨(hB.cell (p:=⟨w.heap.size,0,none⟩) (by show w.heap.size<_;omega)).trans c0,(hB.cell (p:=⟨w.heap.size,1,none⟩) (by show w.heap.size<_;omega)).trans c1,(hB.frozen (p:=⟨w.heap.size,0,none⟩) (by show w.heap.size<_;omega)).trans f0,(hB.frozen (p:=⟨w.heap.size,1,none⟩) (by show w.heap.size<_;omega)).trans f1⟩)
 clear hR0;have F0:=hid (Below.refl w0.heap.size w0);have HW0:=hid hw0;clear hz0 hB0 hS0 hw0;have HL:=hid (show ∀ W:World,Below w0.heap.size w0 W→La W from fun W hB=>hl.on (KB.o W hB));clear hl h1 h2 h3;go_enter func84,ntmps84
 go_wp2_with fail
 rw[← HW0.o];obtain⟨d0,d1⟩:=KS.o _ F0.o;go_wp2_with fail
 refine(C1.o _).mono ?_;rintro e w1 ⟨rfl,hb⟩;have F1:=hid (ai F0.o hb);clear hb d0 d1;obtain⟨d0,d1⟩:=KS.o _ F1.o;go_wp2_with fail
 refine(C2.o _ (HL.o _ F1.o)).mono ?_;rintro e w2 ⟨rfl,hb⟩;have F2:=hid (ai F1.o hb);clear hb d0 d1;obtain⟨d0,d1⟩:=KS.o _ F2.o;go_wp2_with fail
 refine(C3.o _ (HL.o _ F2.o)).mono ?_;rintro e w3 ⟨rfl,hb⟩;have F3:=hid (ai F2.o hb);clear hb d0 d1;obtain⟨d0,d1⟩:=KS.o _ F3.o
 all_goals
  obtain⟨m0,m1,n0,n1⟩:=KR.o _ F3.o;have hz:=KZ.o _ F3.o;go_wp2;refine bodyPost_ret (v:=.tuple #[.agg #[.string ⟨#[]⟩,.string ⟨#[]⟩],.bool false]) (by simp[results,results84,go_sem,m0,m1]) rfl ⟨rfl,?_⟩;repeat (first|exact KB.o _ F3.o|refine Below.setCell ?_ (by first|omega|(simp;omega)|simp) _|refine Below.alloc ?_ (by first|omega|(simp;omega)|simp) _|refine Below.drew ?_)
theorem qH (a n:ByteArray)(w:World)(hl:La w)
 (h1:CQ 120 #[.string a,.string ⟨#[47]⟩] (.tuple #[.string n,.string ⟨#[49]⟩,.bool true]))
 (h2:CL 115 #[.string n] (.bool true))
 (h3:CL 115 #[.string ⟨#[49]⟩] (.bool true)) :
 CR 84 #[.string a] w (.tuple #[.agg #[.string ⟨#[]⟩,.string ⟨#[]⟩],.bool false]):=by
 obtain ⟨C1,C2,C3⟩:=ak h1 h2 h3;obtain⟨w0,hw0⟩:∃ w0:World,w0=(w.alloc (.cells #[.string ⟨#[]⟩,.string ⟨#[]⟩] 103)):=⟨_,rfl⟩;have hz0:w0.heap.size=w.heap.size+1:=by rw[hw0];simp
 have hB0:Below w.heap.size w w0:=by
  rw[hw0];repeat (first|exact Below.refl _ _|refine Below.setCell ?_ (by first|omega|(simp;omega)|simp) _|refine Below.alloc ?_ (by first|omega|(simp;omega)|simp) _|refine Below.drew ?_)
 have hS0:w0.cell? ⟨w.heap.size,0,none⟩=some (.string ⟨#[]⟩)∧w0.cell? ⟨w.heap.size,1,none⟩=some (.string ⟨#[]⟩):=by rw[hw0];exact⟨((aC).trans rfl),((aC).trans rfl)⟩
 have KS:=hid (show ∀ W:World,Below w0.heap.size w0 W→(W.cell? ⟨w.heap.size,0,none⟩=some (.string ⟨#[]⟩)∧W.cell? ⟨w.heap.size,1,none⟩=some (.string ⟨#[]⟩)) from fun W hB=>by
  obtain⟨c0,c1⟩:=hS0
  exact⟨(hB.cell (p:=⟨w.heap.size,0,none⟩) (by show w.heap.size<_;omega)).trans c0,(hB.cell (p:=⟨w.heap.size,1,none⟩) (by show w.heap.size<_;omega)).trans c1⟩)
 have KZ:=hid (show ∀ W:World,Below w0.heap.size w0 W→w.heap.size+1≤W.heap.size from fun W hB=>by have:=hB.size;omega);have KB:=hid (show ∀ W:World,Below w0.heap.size w0 W→Below w.heap.size w W from fun W hB=>hB0.trans (hB.mono (by omega)));have hR0:w0.cell? ⟨w.heap.size,0,none⟩=some (.string ⟨#[]⟩)∧w0.cell? ⟨w.heap.size,1,none⟩=some (.string ⟨#[]⟩)∧w0.frozen? ⟨w.heap.size,0,none⟩=false∧w0.frozen? ⟨w.heap.size,1,none⟩=false:=by rw[hw0];exact⟨((aC).trans rfl),((aC).trans rfl),(aX),(aX)⟩
 have KR:=hid (show ∀ W:World,Below w0.heap.size w0 W→(W.cell? ⟨w.heap.size,0,none⟩=some (.string ⟨#[]⟩)∧W.cell? ⟨w.heap.size,1,none⟩=some (.string ⟨#[]⟩)∧W.frozen? ⟨w.heap.size,0,none⟩=false∧W.frozen? ⟨w.heap.size,1,none⟩=false) from fun W hB=>by
  obtain⟨c0,c1,f0,f1⟩:=hR0
  exact⟨(hB.cell (p:=⟨w.heap.size,0,none⟩) (by show w.heap.size<_;omega)).trans c0,(hB.cell (p:=⟨w.heap.size,1,none⟩) (by show w.heap.size<_;omega)).trans c1,(hB.frozen (p:=⟨w.heap.size,0,none⟩) (by show w.heap.size<_;omega)).trans f0,(hB.frozen (p:=⟨w.heap.size,1,none⟩) (by show w.heap.size<_;omega)).trans f1⟩)
 clear hR0;have F0:=hid (Below.refl w0.heap.size w0);have HW0:=hid hw0;clear hz0 hB0 hS0 hw0;have HL:=hid (show ∀ W:World,Below w0.heap.size w0 W→La W from fun W hB=>hl.on (KB.o W hB));clear hl h1 h2 h3;go_enter func84,ntmps84
 go_wp2_with fail
 rw[← HW0.o];obtain⟨d0,d1⟩:=KS.o _ F0.o;go_wp2_with fail
 refine(C1.o _).mono ?_;rintro e w1 ⟨rfl,hb⟩;have F1:=hid (ai F0.o hb);clear hb d0 d1;obtain⟨d0,d1⟩:=KS.o _ F1.o;go_wp2_with fail
 refine(C2.o _ (HL.o _ F1.o)).mono ?_;rintro e w2 ⟨rfl,hb⟩;have F2:=hid (ai F1.o hb);clear hb d0 d1;obtain⟨d0,d1⟩:=KS.o _ F2.o;go_wp2_with fail
 refine(C3.o _ (HL.o _ F2.o)).mono ?_;rintro e w3 ⟨rfl,hb⟩;have F3:=hid (ai F2.o hb);clear hb d0 d1;obtain⟨d0,d1⟩:=KS.o _ F3.o
 all_goals
  obtain⟨m0,m1,n0,n1⟩:=KR.o _ F3.o;have hz:=KZ.o _ F3.o;go_wp2;refine bodyPost_ret (v:=.tuple #[.agg #[.string ⟨#[]⟩,.string ⟨#[]⟩],.bool false]) (by simp[results,results84,go_sem,m0,m1]) rfl ⟨rfl,?_⟩;repeat (first|exact KB.o _ F3.o|refine Below.setCell ?_ (by first|omega|(simp;omega)|simp) _|refine Below.alloc ?_ (by first|omega|(simp;omega)|simp) _|refine Below.drew ?_)
theorem qG (a n d:ByteArray)(s:Int)(hd1:(d.toList==[49])=false)(hs:s<1)(w:World)(hl:La w)
 (h1:CQ 120 #[.string a,.string ⟨#[47]⟩] (.tuple #[.string n,.string d,.bool true]))
 (h2:CL 115 #[.string n] (.bool true))
 (h3:CL 115 #[.string d] (.bool true))
 (h4:CL 121 #[.string d] (.int .i64 s)) :
 CR 84 #[.string a] w (.tuple #[.agg #[.string ⟨#[]⟩,.string ⟨#[]⟩],.bool false]):=by
 obtain ⟨C1,C2,C3,C4⟩:=aL h1 h2 h3 h4;obtain⟨w0,hw0⟩:∃ w0:World,w0=(w.alloc (.cells #[.string ⟨#[]⟩,.string ⟨#[]⟩] 103)):=⟨_,rfl⟩;have hz0:w0.heap.size=w.heap.size+1:=by rw[hw0];simp
 have hB0:Below w.heap.size w w0:=by
  rw[hw0];repeat (first|exact Below.refl _ _|refine Below.setCell ?_ (by first|omega|(simp;omega)|simp) _|refine Below.alloc ?_ (by first|omega|(simp;omega)|simp) _|refine Below.drew ?_)
 have hS0:w0.cell? ⟨w.heap.size,0,none⟩=some (.string ⟨#[]⟩)∧w0.cell? ⟨w.heap.size,1,none⟩=some (.string ⟨#[]⟩):=by rw[hw0];exact⟨((aC).trans rfl),((aC).trans rfl)⟩
 have KS:=hid (show ∀ W:World,Below w0.heap.size w0 W→(W.cell? ⟨w.heap.size,0,none⟩=some (.string ⟨#[]⟩)∧W.cell? ⟨w.heap.size,1,none⟩=some (.string ⟨#[]⟩)) from fun W hB=>by
  obtain⟨c0,c1⟩:=hS0
  exact⟨(hB.cell (p:=⟨w.heap.size,0,none⟩) (by show w.heap.size<_;omega)).trans c0,(hB.cell (p:=⟨w.heap.size,1,none⟩) (by show w.heap.size<_;omega)).trans c1⟩)
 have KZ:=hid (show ∀ W:World,Below w0.heap.size w0 W→w.heap.size+1≤W.heap.size from fun W hB=>by have:=hB.size;omega);have KB:=hid (show ∀ W:World,Below w0.heap.size w0 W→Below w.heap.size w W from fun W hB=>hB0.trans (hB.mono (by omega)));have hR0:w0.cell? ⟨w.heap.size,0,none⟩=some (.string ⟨#[]⟩)∧w0.cell? ⟨w.heap.size,1,none⟩=some (.string ⟨#[]⟩)∧w0.frozen? ⟨w.heap.size,0,none⟩=false∧w0.frozen? ⟨w.heap.size,1,none⟩=false:=by rw[hw0];exact⟨((aC).trans rfl),((aC).trans rfl),(aX),(aX)⟩
 have KR:=hid (show ∀ W:World,Below w0.heap.size w0 W→(W.cell? ⟨w.heap.size,0,none⟩=some (.string ⟨#[]⟩)∧W.cell? ⟨w.heap.size,1,none⟩=some (.string ⟨#[]⟩)∧W.frozen? ⟨w.heap.size,0,none⟩=false∧W.frozen? ⟨w.heap.size,1,none⟩=false) from fun W hB=>by
  obtain⟨c0,c1,f0,f1⟩:=hR0
  exact⟨(hB.cell (p:=⟨w.heap.size,0,none⟩) (by show w.heap.size<_;omega)).trans c0,(hB.cell (p:=⟨w.heap.size,1,none⟩) (by show w.heap.size<_;omega)).trans c1,(hB.frozen (p:=⟨w.heap.size,0,none⟩) (by show w.heap.size<_;omega)).trans f0,(hB.frozen (p:=⟨w.heap.size,1,none⟩) (by show w.heap.size<_;omega)).trans f1⟩)
 clear hR0;have F0:=hid (Below.refl w0.heap.size w0);have HW0:=hid hw0;clear hz0 hB0 hS0 hw0;have HL:=hid (show ∀ W:World,Below w0.heap.size w0 W→La W from fun W hB=>hl.on (KB.o W hB));clear hl h1 h2 h3 h4;go_enter func84,ntmps84
 go_wp2_with fail
 rw[← HW0.o];obtain⟨d0,d1⟩:=KS.o _ F0.o;go_wp2_with fail
 refine(C1.o _).mono ?_;rintro e w1 ⟨rfl,hb⟩;have F1:=hid (ai F0.o hb);clear hb d0 d1;obtain⟨d0,d1⟩:=KS.o _ F1.o;go_wp2_with fail
 refine(C2.o _ (HL.o _ F1.o)).mono ?_;rintro e w2 ⟨rfl,hb⟩;have F2:=hid (ai F1.o hb);clear hb d0 d1;obtain⟨d0,d1⟩:=KS.o _ F2.o;go_wp2_with fail
 refine(C3.o _ (HL.o _ F2.o)).mono ?_;rintro e w3 ⟨rfl,hb⟩;have F3:=hid (ai F2.o hb);clear hb d0 d1;obtain⟨d0,d1⟩:=KS.o _ F3.o;go_wp2_with fail
 refine(C4.o _ (HL.o _ F3.o)).mono ?_;rintro e w4 ⟨rfl,hb⟩;have F4:=hid (ai F3.o hb);clear hb d0 d1;obtain⟨d0,d1⟩:=KS.o _ F4.o
 all_goals
  obtain⟨m0,m1,n0,n1⟩:=KR.o _ F4.o;have hz:=KZ.o _ F4.o;go_wp2;refine bodyPost_ret (v:=.tuple #[.agg #[.string ⟨#[]⟩,.string ⟨#[]⟩],.bool false]) (by simp[results,results84,go_sem,m0,m1]) rfl ⟨rfl,?_⟩;repeat (first|exact KB.o _ F4.o|refine Below.setCell ?_ (by first|omega|(simp;omega)|simp) _|refine Below.alloc ?_ (by first|omega|(simp;omega)|simp) _|refine Below.drew ?_)
def Fv (q:Rat):Value:=.agg #[.string (Sz q.num),.string (Sz (q.den:Int))]
theorem aR.numL {q:Rat}(h:aR q):FitL q.num:=h.1.mono (by decide)
theorem aR.denL {q:Rat}(h:aR q):FitL (q.den:Int):=FitL.nat (h.2.mono (by decide))
theorem z2O (s:ByteArray)(hs:s.size≤100000)(n d:List UInt8)(f:Bool)(h:Lib.cut s.data.toList [47]=(n,d,f))(W:World) :
 CR 120 #[.string s,.string ⟨#[47]⟩] W (.tuple #[.string ⟨n.toArray⟩,.string ⟨d.toArray⟩,.bool f]):=by
 have h1:=cut1 47 s hs W;rw[h]at h1;exact h1
theorem z5I (z:Int):(⟨(Sz z).data.toList.toArray⟩:ByteArray)=Sz z:=by cases Sz z;simp
theorem z4X (n:Nat):(⟨(Lib.decDigits n).toArray⟩:ByteArray)=Sz (n:Int):=by rw[eD];rfl
theorem jF (q:Rat)(hq:aR q)(w:World)(hl:La w) :
 CR 84 #[.string (Sq q)] w (.tuple #[Fv q,.bool true]):=by
 have hsz:(Sq q).size≤100000:=by have:=zu (show SmQ 900 q from hq) (by decide);omega
 unfold Fv
 by_cases h:q.den=1
 · have hc:=z0Q q.num
   rw[← jv h]at hc
   have h2:=mr (Sq q) (Sq q) ⟨#[]⟩ true w hl (fun W=>by
    have:=z2O (Sq q) hsz _ _ _ hc W
    rwa [show(⟨(Sq q).data.toList.toArray⟩:ByteArray)=Sq q by cases Sq q;simp]at this) (fun W hW=>by rw[jv h];exact dH q.num hq.numL.z W hW.zz)
   rw[h,show((1:Nat):Int)=1 from rfl,kH];rw[jv h]at h2 ⊢;exact h2
 · have hc:=xN h
   have hd:=q.den_nz
   refine kQ (Sq q) (Sz q.num) (Sz (q.den:Int)) 1 true (jq (by omega)) (by decide) w hl (fun W=>by
    have:=z2O (Sq q) hsz _ _ _ hc W
    rwa [z5I,z4X]at this) (fun W hW=>dH q.num hq.numL.z W hW.zz) (fun W hW=>dH (q.den:Int) hq.denL.z W hW.zz) (fun W hW=>nD _ _ (Int.sign_natCast_of_ne_zero hd) hq.denL W hW) (fun W hW=>xc _ _ _ ?_ hq.numL hq.denL W hW)
   have hg:Nat.gcd q.num.natAbs q.den=1:=q.reduced;rw[Int.natAbs_natCast,hg];rfl
theorem size_mk (l:List UInt8):(⟨l.toArray⟩:ByteArray).size=l.length:=by simp[ByteArray.size]
theorem z0b (l:List UInt8):(⟨l.toArray⟩:ByteArray).data.toList=l:=by simp
theorem z2A (a:ByteArray)(h:vldQ a.data.toList=false)(ha:a.size≤900)(w:World)(hl:La w) :
 Calls Tryz.prog 84 #[.string a] w fun e w'=>(∃ n d:ByteArray,e=.returned (.tuple #[.agg #[.string n,.string d],.bool false]))∧Below w.heap.size w w':=by
 have hsz:a.size≤100000:=by omega
 rcases nV 47 a.data.toList with⟨_,e⟩|⟨x,y,hx47,el,e⟩
 · unfold vldQ at h
   rw[e]at h;simp only[Bool.false_eq_true,if_false]at h;have hc:=fun W=>z2O a hsz _ _ _ e W;rw[show(⟨a.data.toList.toArray⟩:ByteArray)=a by cases a;simp]at hc;refine(mr a a ⟨#[]⟩ false w hl hc (fun W hW=>ng a h (by unfold maxLen;omega) W)).mono ?_;rintro e w' ⟨rfl,hb⟩;exact⟨⟨_,_,rfl⟩,hb⟩
 · have hl2:x.length+1+y.length≤900:=by
    have h2:a.data.toList.length=x.length+1+y.length:=by rw[el];simp;omega
    rw[aF]at h2;omega
   unfold vldQ at h
   rw[e]at h;simp only[if_true]at h;have hc:=fun W=>z2O a hsz _ _ _ e W;have fin:∀ {v w'},(v=Ending.returned (.tuple #[.agg #[.string ⟨#[]⟩,.string ⟨#[]⟩],.bool false])∧Below w.heap.size w w')→(∃ n d:ByteArray,v=.returned (.tuple #[.agg #[.string n,.string d],.bool false]))∧Below w.heap.size w w':=fun h=>⟨⟨_,_,h.1⟩,h.2⟩
   cases hv1:vldZ x with
   | false =>
     refine(qJ a ⟨x.toArray⟩ ⟨y.toArray⟩ w hl hc (fun W hW=>ng _ (by simpa using hv1) (by rw[size_mk];unfold maxLen;omega) W)).mono ?_;intro e w' h;exact fin h
   | true =>
     have ex:=zo (a:=⟨x.toArray⟩) (by simpa using hv1);rw[z0b]at ex
     have fx:FitL (zval x):=by
        have:=jw (z:=zval x) (k:=900) (by rw[← ex,size_mk];omega);exact FitL.of this (by decide)
     rw[ex]at hc
     cases hv2:vldZ y with
     | false =>
       refine(qI a _ ⟨y.toArray⟩ w hl hc (fun W hW=>dH _ fx.z W hW.zz) (fun W hW=>ng _ (by simpa using hv2) (by rw[size_mk];unfold maxLen;omega) W)).mono ?_;intro e w' h;exact fin h
     | true =>
       have ey:=zo (a:=⟨y.toArray⟩) (by simpa using hv2);rw[z0b]at ey
       have fy:FitL (zval y):=by
        have:=jw (z:=zval y) (k:=900) (by rw[← ey,size_mk];omega);exact FitL.of this (by decide)
       rw[ey]at hc;by_cases hy1:zval y=1
       · rw[hy1,kH]at hc
         refine(qH a _ w hl hc (fun W hW=>dH _ fx.z W hW.zz) (fun W hW=>by have:=dH 1 fl1.z W hW.zz;rwa [kH]at this)).mono ?_;intro e w' h;exact fin h
       · have hne:=jq hy1
         by_cases hpos:1≤zval y
         · have hco:(Nat.gcd (zval x).natAbs (zval y).natAbs==1)=false:=by
            unfold vldP at h
            rw[hv1,hv2]at h
            have h49:(y==[49])=false:=by
             rw[beq_eq_false_iff_ne];rintro rfl;exact hy1 (by decide)
            rw[h49]at h;simpa [hpos] using h
           refine(kQ a _ _ 1 false hne (by decide) w hl hc (fun W hW=>dH _ fx.z W hW.zz) (fun W hW=>dH _ fy.z W hW.zz) (fun W hW=>nD _ _ (Int.sign_eq_one_of_pos (by omega)) fy W hW) (fun W hW=>xc _ _ _ hco fx fy W hW)).mono ?_;rintro e w' ⟨rfl,hb⟩;exact⟨⟨_,_,rfl⟩,hb⟩
         · refine(qG a _ _ (zval y).sign hne ?_ w hl hc (fun W hW=>dH _ fx.z W hW.zz) (fun W hW=>dH _ fy.z W hW.zz) (fun W hW=>nD _ _ rfl fy W hW)).mono ?_
           · rcases Int.sign_trichotomy (zval y) with h3|h3|h3
             · exact absurd (Int.sign_eq_one_iff_pos.1 h3) (by omega)
             · omega
             · omega
           · intro e w' h;exact fin h
