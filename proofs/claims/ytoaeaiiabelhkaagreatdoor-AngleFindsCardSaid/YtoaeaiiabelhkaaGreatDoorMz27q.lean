/- texts -/
import Derived.Test.YtoaeaiiabelhkaaGreatDoorIj
import Derived.Test.YtoaeaiiabelhkaaGreatDoorMz21q
import Derived.Test.YtoaeaiiabelhkaaGreatDoorMz26q
open Go.Proofs.Tryz
set_option maxRecDepth 100000
set_option maxHeartbeats 20000000
open Go.Lib (hid)
namespace Go.Proofs.YtoaeaiiabelhkaaGreatDoor
open Go.RowKit Go.Gb
theorem wH (a1 a2:ByteArray)(s t q1 q2:Int)(b c d1 d2 r1 r2:ByteArray)(ht:t≠0)(w:World)(hl:Zz w)
 (hread:CR 160 #[.string a1,.string a2] w (.tuple #[.agg #[.int .i64 s,.string b],.agg #[.int .i64 t,.string c],.bool true]))
 (hop:∀ W,Below w.heap.size w W→CR 181 #[.agg #[.int .i64 s,.string b],.agg #[.int .i64 t,.string c]] W (.tuple #[.agg #[.int .i64 q1,.string d1],.agg #[.int .i64 q2,.string d2]]))
 (hs1:CQ 182 #[.agg #[.int .i64 q1,.string d1]] (.string r1))
 (hs2:CQ 182 #[.agg #[.int .i64 q2,.string d2]] (.string r2)) :
 CR 155 #[.string a1,.string a2] w (.tuple #[.string r1,.string r2,.int .i64 0]):=by
 obtain ⟨HR,HO,HS1,HS2,HZ⟩:=bz hread hop hs1 hs2 hl;have ht1:(t==0)=false:=by simpa using ht
 clear hread hop hs1 hs2 hl;go_enter func155,ntmps155
 go_wp2_with fail
 refine HR.o.mono ?_;rintro e w1 ⟨rfl,hb1⟩;have u6:=hid ((hb1.alloc hb1.size (.cells #[.int .i64 s,.string b] 137)).alloc (by have:=hb1.size;simp;omega) (.cells #[.int .i64 t,.string c] 137));obtain⟨z0,z1,z2⟩:=HZ.o.on u6.o;clear hb1;go_wp2_with fail
 refine(HO.o _ u6.o).mono ?_;rintro e w2 ⟨rfl,hb2⟩;have uu:=hid (((u6.o.trans (hb2.mono u6.o.size)).alloc (u6.o.trans (hb2.mono u6.o.size)).size (.cells #[.int .i64 q1,.string d1] 137)).alloc (by have:=(u6.o.trans (hb2.mono u6.o.size)).size;simp;omega) (.cells #[.int .i64 q2,.string d2] 137));clear hb2 z0 z1 z2;go_wp2;go_region_with (first|(go_at_call 182;(with_reducible refine(HS1.o _).mono ?_);rintro e w3 ⟨rfl,hb3⟩;have w9:Below w.heap.size w w3:=(by first|exact uu.o.trans (hb3.mono uu.o.size)|exact uu.o.drew.trans (hb3.mono uu.o.drew.size));obtain⟨hc3,hf3⟩:=fB hb3)|(go_at_call 182;(with_reducible refine(HS2.o _).mono ?_);rintro e w4 ⟨rfl,hb4⟩;have wm:Below w.heap.size w w4:=(w9.trans (hb4.mono w9.size))))
 all_goals
  clear hb3 hb4;go_wp2;go_ret3
  exact⟨rfl,wm⟩
theorem kC (x y:Int)(hy:y≠0)(Q R:Int)(hQ:Q=if 0≤x∨x.natAbs%y.natAbs=0 then x.sign*(y.sign*((x.natAbs / y.natAbs:Nat):Int)) else -(y.sign*((x.natAbs / y.natAbs:Nat):Int))-y.sign)
 (hR:R=if 0≤x∨x.natAbs%y.natAbs=0 then ((x.natAbs%y.natAbs:Nat):Int) else (y.natAbs:Int)-((x.natAbs%y.natAbs:Nat):Int)) :
 R+y*Q=x∧0≤R∧R<(y.natAbs:Int):=by
 have hn:0<y.natAbs:=by omega
 have hdm:=Nat.div_add_mod x.natAbs y.natAbs;have hml:=Nat.mod_lt x.natAbs hn
 have hp:(y.natAbs:Int)*((x.natAbs / y.natAbs:Nat):Int)+((x.natAbs%y.natAbs:Nat):Int)=(x.natAbs:Int):=by
  rw[← Int.natCast_mul,← Int.natCast_add,hdm]
 generalize hk:x.natAbs / y.natAbs=k at *;generalize hr:x.natAbs%y.natAbs=r at *
 have ys:(y.sign=1∧y=(y.natAbs:Int))∨(y.sign = -1∧y = -(y.natAbs:Int)):=by
  rcases bZ y with⟨n,hn2,rfl⟩|rfl|⟨n,hn2,rfl⟩
  · right;rw[Int.sign_neg,Int.sign_natCast_of_ne_zero hn2];simp
  · exact absurd rfl hy
  · left;rw[Int.sign_natCast_of_ne_zero hn2];simp
 have xs:(x.sign=1∧x=(x.natAbs:Int)∧0≤x)∨(x.sign=0∧x=0∧x.natAbs=0)∨(x.sign = -1∧x = -(x.natAbs:Int)∧¬ 0≤x):=by
  rcases bZ x with⟨n,hn,rfl⟩|rfl|⟨n,hn,rfl⟩
  · right;right;rw[Int.sign_neg,Int.sign_natCast_of_ne_zero hn];simp;omega
  · right;left;simp
  · left;rw[Int.sign_natCast_of_ne_zero hn];simp
 generalize y.natAbs=n at *;generalize x.natAbs=m at *;rcases ys with⟨e1,e2⟩|⟨e1,e2⟩<;>rcases xs with⟨f1,f2,f3⟩|⟨f1,f2,f3⟩|⟨f1,f2,f3⟩
 all_goals
  rw[e1]at hQ;rw[f1]at hQ;by_cases hc:0≤x∨r=0
  · rw[if_pos hc]at hQ hR
    refine⟨by rw[hQ,hR];first|grind|(rcases hc with hc|hc<;>grind),by omega,by omega⟩
  · rw[if_neg hc]at hQ hR
    refine⟨by rw[hQ,hR];grind,by omega,by omega⟩
theorem iF (x y:Int)(hy:y≠0)(Q R:Int)(h:R+y*Q=x∧0≤R∧R<(y.natAbs:Int)):x / y=Q∧x%y=R:=by
 rcases Int.lt_or_gt_of_ne hy with h0|h0
 · exact(Int.ediv_emod_unique' h0).2 ⟨h.1,h.2.1,by omega⟩
 · exact(Int.ediv_emod_unique h0).2 ⟨h.1,h.2.1,by omega⟩
theorem Fit.le {m n:Nat}(h:Fit n)(hm:m≤n):Fit m:=by unfold Fit at *;exact Sm.le h hm
theorem z1z {x:Int}{n:Nat}(h:Fit n)(hx:x.natAbs≤n):FitZ x:=by unfold FitZ;exact Fit.le h hx
theorem z3v (x y q r:Int)(hy:y≠0)(hq:x / y=q)(hr:x%y=r)(fx:FitZ x)(fy:FitZ y)(fq:Fit (x.natAbs+1))(w:World)(hl:La w) :
 CR 181 #[Zv x,Zv y] w (.tuple #[Zv q,Zv r]):=by
 have h:=iF x y hy _ _ (kC x y hy _ _ rfl rfl);rw[hq,hr]at h;exact wD x y hy q r h.1 h.2 fx fy (Fit.le fq (Nat.succ_le_succ (Nat.div_le_self x.natAbs y.natAbs))) w hl
theorem quo_le (x y:Int)(hy:y≠0):(x / y).natAbs≤x.natAbs+1:=by
 obtain⟨h1,h2⟩:=iF x y hy _ _ (kC x y hy _ _ rfl rfl);rw[h1];have hk:=Nat.div_le_self x.natAbs y.natAbs;have ys:=Int.sign_trichotomy y;have xs:=Int.sign_trichotomy x;generalize x.natAbs / y.natAbs=k at *;generalize x.natAbs%y.natAbs=r at *;split
 · rcases ys with e|e|e<;>rcases xs with f|f|f<;>rw[e,f]<;>simp<;>omega
 · rcases ys with e|e|e<;>rw[e]<;>simp<;>omega
theorem z4J (x y q r:Int)(hy:y≠0)(hq:x / y=q)(hr:x%y=r)(fx:FitZ x)(fy:FitZ y)(fq:Fit (x.natAbs+1))(w:World)(hl:La w) :
 CR 155 #[.string (Sz x),.string (Sz y)] w (.tuple #[.string (Sz q),.string (Sz r),.int .i64 0]):=by
 have fQ:FitZ q:=by
  rw[← hq];exact z1z fq (quo_le x y hy)
 have fR:FitZ r:=by
  have hf:=kC x y hy _ _ rfl rfl;have he:=(iF x y hy _ _ hf).2;rw[hr]at he;rw[← he]at hf;have h1:=hf.2.1;have h2:=hf.2.2;exact z1z fy (by omega)
 have hs:y.sign≠0:=fun h=>hy (Int.sign_eq_zero_iff_zero.1 h);have h1:=ik x y fx fy w hl.zz;have h2:=fun W (hW:Below w.heap.size w W)=>z3v x y q r hy hq hr fx fy fq W (hl.on hW);have h3:=fun W=>iL q fQ W;have h4:=fun W=>iL r fR W;unfold Zv at h1 h2 h3 h4
 exact wH _ _ _ _ _ _ _ _ _ _ _ _ hs w hl.zz h1 h2 h3 h4
def FitL (z:Int):Prop:=Sm 1900 z.natAbs
theorem FitL.z {z:Int}(h:FitL z):FitZ z:=by unfold FitZ Fit;exact Sm.mono (k:=1900) h (by decide)
theorem FitL.succ {z:Int}(h:FitL z):Fit (z.natAbs+1):=by
 have h1:Sm 1900 1:=(show Sm 1 1 by simp[Sm]).mono (by decide);unfold Fit;exact Sm.mono (Sm.add (show Sm 1900 z.natAbs from h) h1) (by decide)
theorem fl1:FitL 1:=(show Sm 1 1 by simp[Sm]).mono (by decide)
theorem FitL.of {k:Nat}{z:Int}(h:Sm k z.natAbs)(hk:k≤1900):FitL z:=h.mono hk
theorem FitL.le {x y:Int}(h:FitL y)(hx:x.natAbs≤y.natAbs):FitL x:=Sm.le h hx
theorem FitL.nat {n:Nat}(h:Sm 1900 n):FitL (n:Int):=by unfold FitL;rwa [Int.natAbs_natCast]
theorem kG:Sz 1=⟨#[49]⟩:=by decide +kernel
theorem z6c {x y:Int}(h:x≠y):((Sz x).toList==(Sz y).toList)=false:=by
 rw[beq_eq_false_iff_ne,toList_data,toList_data];intro h2;apply h
 rw[← xG x,h2,xG]
theorem jo {x:Int}(h:x≠1):((Sz x).toList==[49])=false:=by
 have:=z6c h;rw[kG,toList_data ⟨#[49]⟩]at this;exact this
theorem z0L (a:ByteArray)(s:Int)(w:World)
 (hc:CR 122 #[.string a] w (.tuple #[.int .i64 s,.int .i64 0])) :
 CR 78 #[.string a] w (.int .i64 s):=by
 have HC:=hid hc;clear hc;go_enter func78,ntmps78
 go_wp2_with fail
 refine HC.o.mono ?_;rintro e w1 ⟨rfl,hb⟩;go_wp2;go_ret
 exact⟨rfl,hb⟩
theorem z2L (a:ByteArray)(r:ByteArray)(w:World)
 (hc:CR 184 #[.string a] w (.tuple #[.string r,.int .i64 0])) :
 CR 157 #[.string a] w (.string r):=by
 have HC:=hid hc;clear hc;go_enter func157,ntmps157
 go_wp2_with fail
 refine HC.o.mono ?_;rintro e w1 ⟨rfl,hb⟩;go_wp2;go_ret
 exact⟨rfl,hb⟩
theorem zo (a:ByteArray)(b:ByteArray)(s:Int)(w:World)
 (hc:CR 144 #[.string a,.string b] w (.tuple #[.int .i64 s,.int .i64 0])) :
 CR 118 #[.string a,.string b] w (.int .i64 s):=by
 have HC:=hid hc;clear hc;go_enter func118,ntmps118
 go_wp2_with fail
 refine HC.o.mono ?_;rintro e w1 ⟨rfl,hb⟩;go_wp2;go_ret
 exact⟨rfl,hb⟩
theorem z0M (a:ByteArray)(b:ByteArray)(r:ByteArray)(w:World)
 (hc:CR 156 #[.string a,.string b] w (.tuple #[.string r,.int .i64 0])) :
 CR 139 #[.string a,.string b] w (.string r):=by
 have HC:=hid hc;clear hc;go_enter func139,ntmps139
 go_wp2_with fail
 refine HC.o.mono ?_;rintro e w1 ⟨rfl,hb⟩;go_wp2;go_ret
 exact⟨rfl,hb⟩
theorem zn (a:ByteArray)(b:ByteArray)(r:ByteArray)(w:World)
 (hc:CR 145 #[.string a,.string b] w (.tuple #[.string r,.int .i64 0])) :
 CR 119 #[.string a,.string b] w (.string r):=by
 have HC:=hid hc;clear hc;go_enter func119,ntmps119
 go_wp2_with fail
 refine HC.o.mono ?_;rintro e w1 ⟨rfl,hb⟩;go_wp2;go_ret
 exact⟨rfl,hb⟩
theorem z2J (a:ByteArray)(b:ByteArray)(r r2:ByteArray)(w:World)(hb1:(b.toList==[49])=false)
 (hc:CR 155 #[.string a,.string b] w (.tuple #[.string r,.string r2,.int .i64 0])) :
 CR 138 #[.string a,.string b] w (.string r):=by
 have HC:=hid hc;clear hc;go_enter func138,ntmps138
 go_wp2_with fail
 refine HC.o.mono ?_;rintro e w1 ⟨rfl,hb⟩;go_wp2;go_ret
 exact⟨rfl,hb⟩
theorem qQ (x s:Int)(hs:x.sign=s)(hx:FitL x)(w:World)(hl:La w) :
 CR 78 #[.string (Sz x)] w (.int .i64 s):=by
 subst hs;exact z0L _ _ w (z6R x hx.z w hl)
theorem rneg (x y:Int)(h : -x=y)(hx:FitL x)(w:World)(hl:La w) :
 CR 157 #[.string (Sz x)] w (.string (Sz y)):=by
 subst h;exact z2L _ _ w (zNeg x hx.z w hl)
theorem z4w (x y c:Int)(hc:cmpZ x y=c)(hx:FitL x)(hy:FitL y)(w:World)(hl:La w) :
 CR 118 #[.string (Sz x),.string (Sz y)] w (.int .i64 c):=zo _ _ _ w (z2r x y c hc hx.z hy.z w hl)
theorem z7c (x y z:Int)(hz:x+y=z)(hx:FitL x)(hy:FitL y)(fz:FitL z)(w:World)(hl:La w) :
 CR 139 #[.string (Sz x),.string (Sz y)] w (.string (Sz z)):=z0M _ _ _ w (zAdd x y z hz hx.z hy.z fz.z w hl)
theorem nK (x y z:Int)(hz:x*y=z)(hx:FitL x)(hy:FitL y)(fz:FitL z)(w:World)(hl:La w) :
 CR 119 #[.string (Sz x),.string (Sz y)] w (.string (Sz z)):=zn _ _ _ w (zMul x y z hz hx.z hy.z fz.z w hl)
theorem z2K (a:ByteArray)(w:World) :
 CR 138 #[.string a,.string ⟨#[49]⟩] w (.string a):=by
 go_enter func138,ntmps138
 go_wp2;go_ret
 exact⟨rfl,Below.refl _ _⟩
theorem rquo (x y q:Int)(hy:y≠0)(hq:x / y=q)(hx:FitL x)(fy:FitL y)(w:World)(hl:La w) :
 CR 138 #[.string (Sz x),.string (Sz y)] w (.string (Sz q)):=by
 by_cases h1:y=1
 · subst h1
   obtain rfl:x=q:=by rw[← hq,Int.ediv_one]
   rw[kG];exact z2K _ w
 · exact z2J _ _ _ _ w (jo h1) (z4J x y q _ hy hq rfl hx.z fy.z hx.succ w hl)
theorem z4R (z:Int):(⟨(Lib.trimPrefix (Sz z).data.toList [45]).toArray⟩:ByteArray)=Sn z.natAbs:=by
 rcases bZ z with⟨n,hn,rfl⟩|rfl|⟨n,hn,rfl⟩
 · rw[jq hn,Int.natAbs_neg,Int.natAbs_natCast]
   simp[Lib.trimPrefix,Lib.hasPrefix,List.isPrefixOf,Sn]
 · decide +kernel
 · rw[dU,Int.natAbs_natCast,cK]
   obtain⟨c,t,h,hc⟩:=jP (n:=n)
   have hp:Lib.hasPrefix (Lib.decDigits n) [45]=false:=by
    rw[h];have:¬ 45=c:=fun h2=>hc h2.symm;simp[Lib.hasPrefix,List.isPrefixOf,this]
   unfold Lib.trimPrefix
   rw[hp];rfl
theorem tQ (z:Int)(hz:FitL z)(w:World) :
 Calls Tryz.prog 153 #[.string (Sz z)] w fun e w'=>∃ v,e=.returned v∧Gb.Own .u64 112 w.heap.size w' v (ae z.natAbs)∧Below w.heap.size w w':=by
 have HP:=hid (show ∀ W,Calls Tryz.prog 180 #[.string (Sz z),.string ⟨#[45]⟩] W fun e w'=>e=.returned (.string (Sn z.natAbs))∧W=w' from fun W=>by
  refine(Tryz.strings_TrimPrefix _ _ W).mono ?_;rintro e w' ⟨rfl,hw⟩;refine⟨?_,by first|exact hw.symm|exact hw⟩
  rw[show(⟨#[45]⟩:ByteArray).data.toList=[45]from rfl,z4R])
 have HR:=hid (gD (Sn z.natAbs) (by rw[cK];exact je _) (by have:=(FitL.z hz).size;omega) w);rw[cu]at HR;generalize Sz z=a at *;generalize Sn z.natAbs=b at *;clear hz;go_enter func153,ntmps153
 go_wp2_with fail
 refine(HP.o _).mono ?_;rintro e w' ⟨rfl,rfl⟩;go_wp2_with fail
 refine HR.o.mono ?_;rintro e w1 ⟨v,rfl,ho,hb⟩;have HO:=hid ho;clear ho;go_wp2;go_ret
 exact⟨v,rfl,HO.o,hb⟩
theorem vK (a b c:ByteArray)(x y g:Nat)(h1:(a.toList==[49])=false)(h2:(b.toList==[49])=false)(w:World)(hl:La w)
 (ha:∀ W,Calls Tryz.prog 153 #[.string a] W fun e w'=>∃ v,e=.returned v∧Gb.Own .u64 112 W.heap.size w' v (ae x)∧Below W.heap.size W w')
 (hb:∀ W,Calls Tryz.prog 153 #[.string b] W fun e w'=>∃ v,e=.returned v∧Gb.Own .u64 112 W.heap.size w' v (ae y)∧Below W.heap.size W w')
 (hok:∀ (v1 v2:Value) (w:World),Rd .u64 w v1 (ae x)→Rd .u64 w v2 (ae y)→Calls Tryz.prog 152 #[v1,v2] w fun e w'=>∃ v,e=.returned v∧Gb.Own .u64 112 w.heap.size w' v (ae g)∧Below w.heap.size w w')
 (hw:∀ (v:Value) (w:World),Rd .u64 w v (ae g)→Tb w→CR 151 #[v] w (.string c)) :
 CR 126 #[.string a,.string b] w (.string c):=by
 obtain ⟨HA,HB,HK,HW,HT⟩:=bz ha hb hok hw hl.tb;clear ha hb hok hw hl;go_enter func126,ntmps126
 go_wp2_with fail
 refine(HA.o _).mono ?_;rintro e w1 ⟨v1,rfl,ho1,hb1⟩;have u6:=hid hb1;have HO1:=hid ho1;clear hb1 ho1;go_wp2_with fail
 refine(HB.o _).mono ?_;rintro e w2 ⟨v2,rfl,ho2,hb2⟩;have uu:=hbt u6 hb2;have hm:=hid (HK.o v1 v2 w2 (HO1.o.rd.below hb2) ho2.rd);clear hb2 ho2;go_wp2_with fail
 refine hm.o.mono ?_;rintro e w3 ⟨v3,rfl,ho3,hb3⟩;have w9:=hbt uu hb3;have hwr:=hid (HW.o v3 w3 ho3.rd (HT.o.on w9.o));clear hb3 ho3;go_wp2_with fail
 refine hwr.o.mono ?_;rintro e w4 ⟨rfl,hb4⟩;have wm:=hbt w9 hb4;clear hb4;go_wp2;go_ret
 exact⟨rfl,wm.o⟩
theorem tY (b:ByteArray)(w:World) :
 CR 126 #[.string ⟨#[49]⟩,.string b] w (.string ⟨#[49]⟩):=by
 go_enter func126,ntmps126
 go_wp2;go_ret
 exact⟨rfl,Below.refl _ _⟩
theorem tX (a:ByteArray)(h1:(a.toList==[49])=false)(w:World) :
 CR 126 #[.string a,.string ⟨#[49]⟩] w (.string ⟨#[49]⟩):=by
 go_enter func126,ntmps126
 go_wp2;go_ret
 exact⟨rfl,Below.refl _ _⟩
theorem lc {z:Int}(h:FitL z):(ae z.natAbs).length≤70000:=Nat.le_trans (gL (show Sm 1900 z.natAbs from h) (by decide)) (by decide)
theorem lK (x y g:Int)(hg:((Nat.gcd x.natAbs y.natAbs:Nat):Int)=g)(hx:FitL x)(hy:FitL y)(w:World)(hl:La w) :
 CR 126 #[.string (Sz x),.string (Sz y)] w (.string (Sz g)):=by
 subst hg;by_cases h1:x=1
 · subst h1
   rw[show Nat.gcd (1:Int).natAbs y.natAbs=1 from Nat.gcd_one_left _,show((1:Nat):Int)=1 from rfl,kG];exact tY _ w
 · by_cases h2:y=1
   · subst h2
     rw[show Nat.gcd x.natAbs (1:Int).natAbs=1 from Nat.gcd_one_right _,show((1:Nat):Int)=1 from rfl,kG];exact tX _ (jo h1) w
   · have hlg:(ae (Nat.gcd x.natAbs y.natAbs)).length≤100000:=by
        rcases Nat.eq_zero_or_pos x.natAbs with h|h
        · rw[h,Nat.gcd_zero_left];exact Nat.le_trans (lc hy) (by decide)
        · exact Nat.le_trans (Nat.le_trans (aP (Nat.gcd_le_left _ h)) (lc hx)) (by decide)
     refine vK _ _ _ x.natAbs y.natAbs _ (jo h1) (jo h2) w hl (fun W=>tQ x hx W) (fun W=>tQ y hy W) (z0b _ _ (lc hx) (lc hy)) (fun v W hr ht=>?_);rw[dU];exact iX v _ hlg W hr ht
end Go.Proofs.YtoaeaiiabelhkaaGreatDoor
open Go.Lib (hid)
namespace Go.Proofs.YtoaeaiiabelhkaaGreatDoor
open Go.RowKit Go.Gb
theorem z1O (c:UInt8)(s:ByteArray)(hs:s.size≤100000)(w:World) :
 CR 120 #[.string s,.string ⟨#[c]⟩] w (.tuple #[.string ⟨(Lib.cut s.data.toList [c]).1.toArray⟩,.string ⟨(Lib.cut s.data.toList [c]).2.1.toArray⟩,.bool (Lib.cut s.data.toList [c]).2.2]):=by
 have hdl:(⟨#[c]⟩:ByteArray).data.toList=[c]:=rfl;have hsz:(⟨#[c]⟩:ByteArray).size=1:=rfl;rcases Lib.indexB_cases s ⟨#[c]⟩with hix|⟨i,hix,hroom⟩
 · have h3:=Lib.cutB_miss s ⟨#[c]⟩ hix
   rw[hdl]at h3;obtain⟨e1,e2,e3⟩:=h3;rw[e1,e2,e3];have hb:Lib.indexByte s.data.toList c = -1:=by rw[← Lib.index_one];exact hix
   have HI:=hid (fun W=>Tryz.stringslite_Index_one s c W);rw[hb]at HI;clear hix hb e1 e2 e3 hdl hsz;go_enter func120,ntmps120
   go_wp2_with fail
   refine(HI.o _).mono ?_;rintro e w' ⟨rfl,rfl⟩;go_wp2;go_ret3
   exact⟨rfl,Below.refl _ _⟩
 · have h3:=Lib.cutB_hit s ⟨#[c]⟩ i hix
   rw[hdl]at h3;obtain⟨e1,e2,e3⟩:=h3;rw[e1,e2,e3];have hb:Lib.indexByte s.data.toList c=i:=by rw[← Lib.index_one];exact hix
   have HI:=hid (fun W=>Tryz.stringslite_Index_one s c W);rw[hb]at HI;have c1:(0:Int) ≤ ↑i:=by omega
   have c2:(↑i:Int) ≤ ↑s.size:=by omega
   have c3:(0:Int) ≤ ↑i+1:=by omega
   have c4:(↑i+1:Int) ≤ ↑s.size:=by omega
   have c5:(↑s.size:Int)≤100000:=by omega
   have c6:IntKind.i64.wrap ((i:Int)+1)=(i:Int)+1:=IntWalk.i64_in _ (by omega);rw[hsz];clear hix hb e1 e2 e3 hdl hsz hroom;go_enter func120,ntmps120
   go_wp2_with fail
   refine(HI.o _).mono ?_;rintro e w' ⟨rfl,rfl⟩;go_wp2;go_region
   go_wp2;go_ret3
   exact⟨rfl,(Below.refl _ _).drew⟩
theorem cut1 (c:UInt8)(s:ByteArray)(hs:s.size≤100000)(w:World) :
 CR 76 #[.string s,.string ⟨#[c]⟩] w (.tuple #[.string ⟨(Lib.cut s.data.toList [c]).1.toArray⟩,.string ⟨(Lib.cut s.data.toList [c]).2.1.toArray⟩,.bool (Lib.cut s.data.toList [c]).2.2]):=by
 have HC:=hid (z1O c s hs w);clear hs;generalize (⟨(Lib.cut s.data.toList [c]).1.toArray⟩:ByteArray)=a at *;generalize (⟨(Lib.cut s.data.toList [c]).2.1.toArray⟩:ByteArray)=b at *;generalize (Lib.cut s.data.toList [c]).2.2=f at *;go_enter func76,ntmps76
 go_wp2_with fail
 refine HC.o.mono ?_;rintro e w1 ⟨rfl,hb⟩;go_wp2;go_ret3
 exact⟨rfl,hb⟩
theorem lL (a:ByteArray)(h:a.size≤18)(w:World) :
 Calls Tryz.prog 123 #[.string a] w fun e w'=>e=.returned (.bool true)∧w=w':=by
 have h1:(a.size:Int)≤18:=by omega
 clear h;go_enter func123,ntmps123
 go_wp2;go_ret
 exact⟨rfl,rfl⟩
theorem tZ (a:ByteArray)(h:18<a.size)(w:World) :
 Calls Tryz.prog 123 #[.string a] w fun e w'=>e=.returned (.bool false)∧w=w':=by
 have h1:decide ((a.size:Int)≤18)=false:=by rw[decide_eq_false_iff_not];omega
 clear h;go_enter func123,ntmps123
 go_wp2;go_ret
 exact⟨by first|rfl|(rw[h1]),rfl⟩
theorem pR (z:Int)(hs:(Sz z).size≤18)(w:World) :
 CR 125 #[.string (Sz z)] w (.int .i64 z):=by
 have HP:=hid (z2V hs);have HM:=hid (show(Sz z).size≤9223372036854775806 by omega);generalize Sz z=s at *;clear hs;go_enter func125,ntmps125
 go_wp2_with fail
 refine(Tryz.strconv_ParseInt_10_at64_ok s HM.o _ HP.o _).mono ?_;rintro e w' ⟨rfl,hw⟩
 have hb:Below w.heap.size w w':=by
  rcases hw with rfl|⟨t,rfl⟩
  · exact Below.refl _ _
  · exact Lib.bytesWorld_below w _ t
 clear hw;go_wp2;go_ret
 exact⟨rfl,hb⟩
theorem z1f (a:Int):max a (-a)=(a.natAbs:Int):=by omega
theorem rgcd (a b:Int)(ha:a.natAbs<4611686018427387904)(hb:b.natAbs<4611686018427387904)(w:World) :
 CR 124 #[.int .i64 a,.int .i64 b] w (.int .i64 ((Nat.gcd a.natAbs b.natAbs:Nat):Int)):=by
 have m1:=z1f a;have m2:=z1f b;have w1:IntKind.i64.wrap (-a) = -a:=IntWalk.i64_in _ (by omega);have w2:IntKind.i64.wrap (-b) = -b:=IntWalk.i64_in _ (by omega);obtain⟨x,hx⟩:∃ x:Nat,a.natAbs=x:=⟨_,rfl⟩;obtain⟨y,hy⟩:∃ y:Nat,b.natAbs=y:=⟨_,rfl⟩;rw[hx]at m1;rw[hy]at m2;rw[hx,hy];have HX:=hid (show x<4611686018427387904 by omega);have HY:=hid (show y<4611686018427387904 by omega);obtain⟨g,hg⟩:∃ g:Nat,Nat.gcd x y=g:=⟨_,rfl⟩;rw[hg];have HG:=hid hg;clear hx hy hg ha hb;go_enter func124,ntmps124
 go_wp2;clear m1 m2 w1 w2;go_loopw [0,1] (fun u v W=>∃ p q:Nat,Hid (p<4611686018427387904∧q<4611686018427387904∧Nat.gcd p q=g)∧Below w.heap.size w W∧u=.int .i64 p∧v=.int .i64 q) (fun _ v _=>(intOf v).toNat)
 case atStart=>exact⟨x,y,hid ⟨HX.o,HY.o,HG.o⟩,Below.refl _ _,rfl,rfl⟩
 case round =>
  obtain⟨p,q,hr,hB,rfl,rfl⟩:=hrel;have HB:=hid hB;clear hB;by_cases hq:0<q
  · have hq1:(0:Int)<(q:Int):=by omega
    have hq2:¬ (q:Int)=0:=by omega
    have hp1:(p:Int)<4611686018427387904:=by have:=hr.o.1;omega
    have hp2:(0:Int)≤(p:Int):=by omega
    have hq3:(q:Int)<4611686018427387904:=by have:=hr.o.2.1;omega
    go_wp2;go_region
    all_goals
        go_wp2;go_roundw
        case rel=>exact⟨q,p%q,hid ⟨by omega,by have:=Nat.mod_lt p hq;omega,by rw[Nat.gcd_comm,← Nat.gcd_rec,Nat.gcd_comm];exact hr.o.2.2⟩,HB.o.drew,rfl,by go_num⟩
        case measure=>have:=Nat.mod_lt p hq;simp[intOf];omega
  · obtain rfl:q=0:=by omega
    have hg:=hr.o.2.2;rw[Nat.gcd_zero_right]at hg;subst hg;go_wp2;go_ret
    exact⟨rfl,HB.o⟩
set_option maxHeartbeats 1000000 in
theorem sQ (u:Value)(z:Int)(hl:(ae z.natAbs).length≤1000000)(w:World)(h:Rz w u z) :
 Calls Tryz.prog 137 #[u] w fun e w'=>∃ u',e=.returned u'∧Rz w' u' (-z)∧Below w.heap.size w w':=by
 obtain⟨p,c,rfl,hr⟩:=iZ h;obtain⟨b,hb⟩:∃ b,b=decide (z<0):=⟨_,rfl⟩;rw[← hb]
 have hrb:(!b&&decide (0<(ae z.natAbs).length))=decide (-z<0):=by
  rw[hb,rE];rcases bZ z with⟨n,hn,rfl⟩|rfl|⟨n,hn,rfl⟩
  · have h1 : -(n:Int)<0:=by omega
    have h2:¬ - -(n:Int)<0:=by omega
    rw[decide_eq_true h1,decide_eq_false h2];rfl
  · rfl
  · have h1:¬ (n:Int)<0:=by omega
    have h2 : -(n:Int)<0:=by omega
    rw[decide_eq_false h1,decide_eq_true h2,Int.natAbs_natCast,decide_eq_true (by omega)];rfl
 obtain⟨lz,hlz⟩:∃ l,l=(ae z.natAbs).length:=⟨_,rfl⟩;rw[← hlz]at hl hr hrb ⊢;obtain⟨r,hr2⟩:∃ r,r=decide (-z<0):=⟨_,rfl⟩;rw[← hr2]at hrb;have HM:=Lib.hid (uW (!b) p lz c r hrb hl ((w.alloc (.cells #[.bool b,.slice p lz c] 47)).alloc (.cells #[.bool false,.slice none 0 0] 47)));have HB:=Lib.hid (((Below.refl w.heap.size w).alloc (Nat.le_refl _) (.cells #[.bool b,.slice p lz c] 47)).alloc (by simp) (.cells #[.bool false,.slice none 0 0] 47));have HR:=Lib.hid (show Rd .u32 w (.slice p lz c) (ae (-z).natAbs) by rw[Int.natAbs_neg];exact hr);have HR2:=Lib.hid hr2;clear h hb hlz hr hrb hl hr2;go_enter func137,ntmps137
 go_wp2_with fail
 refine HM.o.mono ?_;rintro e w1 ⟨rfl,hb⟩;have c0:w1.cell? ⟨w.heap.size+1,0,none⟩=some (.bool false):=(hb.cell (p:=⟨w.heap.size+1,0,none⟩) (by simp)).trans (by simp);have c1:w1.cell? ⟨w.heap.size+1,1,none⟩=some (.slice none 0 0):=(hb.cell (p:=⟨w.heap.size+1,1,none⟩) (by simp)).trans (by simp);have f0:w1.frozen? ⟨w.heap.size+1,0,none⟩=false:=(hb.frozen (p:=⟨w.heap.size+1,0,none⟩) (by simp)).trans (by simp);have f1:w1.frozen? ⟨w.heap.size+1,1,none⟩=false:=(hb.frozen (p:=⟨w.heap.size+1,1,none⟩) (by simp)).trans (by simp);have uu:=Lib.hid (HB.o.trans (hb.mono (by simp;omega)));clear hb;go_wp2;refine bodyPost_ret (v:=.agg #[.bool r,.slice p lz c]) (by simp[results,results137,go_sem,c0,c1]) rfl ⟨_,rfl,?_,?_⟩
 · have hb3:=(uu.o.setCell (p:=⟨w.heap.size+1,0,none⟩) (Nat.le_succ _) (.bool r)).setCell (p:=⟨w.heap.size+1,1,none⟩) (Nat.le_succ _) (.slice p lz c)
   exact⟨_,by rw[HR2.o],HR.o.below hb3⟩
 · exact(uu.o.setCell (p:=⟨w.heap.size+1,0,none⟩) (Nat.le_succ _) _).setCell (p:=⟨w.heap.size+1,1,none⟩) (Nat.le_succ _) _
theorem vk (z:Int)(h:(Sz z).size≤1000)(w:World) :
 Calls Tryz.prog 47 #[.string (Sz z)] w fun e w'=>e=.returned (.bool true)∧w=w':=by
 have h1:=qz (Sz z) h w;rwa [z6b]at h1
theorem pF (a:ByteArray)(hv:vldZ a.data.toList=false)(h:a.size≤1000)(w:World) :
 Calls Tryz.prog 47 #[.string a] w fun e w'=>e=.returned (.bool false)∧w=w':=by
 have h1:=qz a h w;rwa [hv]at h1
