/- Texts of this proof, one behind the other. -/
import Derived.Test.YtmigpoiajkihhaaGreatDoorMz20q
open Go.Proofs.Tryz
set_option maxRecDepth 100000
set_option maxHeartbeats 20000000
open Go.Lib (hid)
namespace Go.Proofs.YtmigpoiajkihhaaGreatDoor
open Go.RowKit Go.Gb
theorem wU {B a b:Nat}{u1 u2 u3 u4:Value}{P Q:Nat}{w:World}(hB:B≤w.heap.size)(o1:Own .u64 141 B w u1 (ah a))(o2:Own .u64 141 B w u2 (ah b))(o3:Own .u64 141 B w u3 (ah P))(o4:Own .u64 141 B w u4 (ah Q))
 (a12:Apt u1 u2) (a13:Apt u1 u3) (a14:Apt u1 u4) (a23:Apt u2 u3) (a24:Apt u2 u4) (a34:Apt u3 u4) (n:Bool) :
 EuSt B (w.alloc (.cells #[u1,u2,u3,u4,.bool n] 183)) w.heap.size a b P Q n:=by
 have hb:=(Below.refl _ w).alloc (Nat.le_refl _) (.cells #[u1,u2,u3,u4,.bool n] 183)
 refine⟨u1,u2,u3,u4,?_,hB,⟨o1.below hb,o2.below hb,o3.below hb,o4.below hb,a12,a13,a14,a23,a24,a34⟩⟩
 unfold Eb
 rw[heap_alloc_new]
theorem vS (v1 v2:Value)(a b:Nat)(hl:2<(ah a).length∨2<(ah b).length)(hla:(ah a).length≤70000)(hlb:(ah b).length≤70000)(w:World)(h1:Rd .u64 w v1 (ah a))(h2:Rd .u64 w v2 (ah b)) :
 Calls Tryz.prog 126 #[v1,v2] w fun e w'=>∃ v,e=.returned v∧Own .u64 141 w.heap.size w' v (ah (Nat.gcd a b))∧Below w.heap.size w w':=by
 have hlN:(ah (a+b)).length≤80000:=by
  have:=fC hla hlb
  omega
 have HI:=hid (CmI.keeps hlN)
 have HC1:=hid (nN v1 (ah a) (by omega) w h1)
 have HC2:=hid (fun W (h:Rd .u64 W v2 (ah b))=>nN v2 (ah b) (by omega) W h)
 have HR2:=hid h2
 by_cases hs:(ah a).length≤2
 · have s1:=hid (jK v1 _ hs w h1)
   have s2:=hid (oG v2 _ (by omega) (by omega) w h2)
   clear hl hla hlb h1 h2 hlN hs
   go_enter func126,ntmps126
   go_wp2_with fail
   refine s1.out.mono ?_
   rintro e w' ⟨rfl,rfl⟩
   go_wp2_with fail
   refine s2.out.mono ?_
   rintro e w' ⟨rfl,rfl⟩
   clear s1 s2
   go_wp2_with fail
   refine HC1.out.mono ?_
   rintro e w1 ⟨u1,rfl,ho1,hb1⟩
   obtain⟨a1,c1,rfl⟩:=aP ho1.rd
   have HO1:=hid ho1
   have HB1:=hid hb1
   have HD2:=hid (HC2.out w1 (HR2.out.below hb1))
   clear ho1 hb1
   go_wp2_with fail
   refine HD2.out.mono ?_
   rintro e w2 ⟨u2,rfl,ho2,hb2⟩
   obtain⟨a2,c2,rfl⟩:=aP ho2.rd
   have hB2:=HB1.out.trans (hb2.mono HB1.out.size)
   have hst:=wU (n:=false) hB2.size (HO1.out.below hb2) (ho2.mono HB1.out.size) (u3:=.slice none 0 0) (u4:=.slice none 0 0) (P:=0) (Q:=0) (by rw[aL];exact Own.nil _ _ _ _) (by rw[aL];exact Own.nil _ _ _ _)
    (eG ho2 _ (fun g hg=>(HO1.out.at hg).2)).symm (Apt.nil_right _ _ _) (Apt.nil_right _ _ _) (Apt.nil_right _ _ _) (Apt.nil_right _ _ _) (Apt.nil_right _ _ _)
   have hB3:=hB2.alloc hB2.size (.cells #[.slice a1 (ah a).length c1,.slice a2 (ah b).length c2,.slice none 0 0,.slice none 0 0,.bool false] 183)
   have HRun:=hid (eRun _ HI.out w.heap.size w2.heap.size a b 0 0 false ⟨Nat.le_refl _,rfl,rfl⟩ _ hst hB3.size)
   have HB3:=hid hB3
   clear ho2 hb2 hB2 hst hB3 HO1 HB1 HC1 HC2 HD2 HR2
   go_wp2_with fail
   refine HRun.out.mono ?_
   rintro e w4 ⟨P',Q',n',rfl,hE,_,hb4⟩
   have HB4:=hid (HB3.out.trans hb4)
   obtain⟨vf,vs,vp,vq,hEb,_,L⟩:=hE.out
   obtain⟨c0,_,_,_,_⟩:=hEb.cells
   have HF:=hid L.f
   clear hE hEb L hb4 HRun
   go_wp2
   go_ret
   exact⟨vf,rfl,HF.out,HB4.out⟩
 · have s1:=hid (oG v1 _ (by omega) (by omega) w h1)
   clear hl hla hlb h1 h2 hlN hs
   go_enter func126,ntmps126
   go_wp2_with fail
   refine s1.out.mono ?_
   rintro e w' ⟨rfl,rfl⟩
   clear s1
   go_wp2_with fail
   refine HC1.out.mono ?_
   rintro e w1 ⟨u1,rfl,ho1,hb1⟩
   obtain⟨a1,c1,rfl⟩:=aP ho1.rd
   have HO1:=hid ho1
   have HB1:=hid hb1
   have HD2:=hid (HC2.out w1 (HR2.out.below hb1))
   clear ho1 hb1
   go_wp2_with fail
   refine HD2.out.mono ?_
   rintro e w2 ⟨u2,rfl,ho2,hb2⟩
   obtain⟨a2,c2,rfl⟩:=aP ho2.rd
   have hB2:=HB1.out.trans (hb2.mono HB1.out.size)
   have hst:=wU (n:=false) hB2.size (HO1.out.below hb2) (ho2.mono HB1.out.size) (u3:=.slice none 0 0) (u4:=.slice none 0 0) (P:=0) (Q:=0) (by rw[aL];exact Own.nil _ _ _ _) (by rw[aL];exact Own.nil _ _ _ _)
    (eG ho2 _ (fun g hg=>(HO1.out.at hg).2)).symm (Apt.nil_right _ _ _) (Apt.nil_right _ _ _) (Apt.nil_right _ _ _) (Apt.nil_right _ _ _) (Apt.nil_right _ _ _)
   have hB3:=hB2.alloc hB2.size (.cells #[.slice a1 (ah a).length c1,.slice a2 (ah b).length c2,.slice none 0 0,.slice none 0 0,.bool false] 183)
   have HRun:=hid (eRun _ HI.out w.heap.size w2.heap.size a b 0 0 false ⟨Nat.le_refl _,rfl,rfl⟩ _ hst hB3.size)
   have HB3:=hid hB3
   clear ho2 hb2 hB2 hst hB3 HO1 HB1 HC1 HC2 HD2 HR2
   go_wp2_with fail
   refine HRun.out.mono ?_
   rintro e w4 ⟨P',Q',n',rfl,hE,_,hb4⟩
   have HB4:=hid (HB3.out.trans hb4)
   obtain⟨vf,vs,vp,vq,hEb,_,L⟩:=hE.out
   obtain⟨c0,_,_,_,_⟩:=hEb.cells
   have HF:=hid L.f
   clear hE hEb L hb4 HRun
   go_wp2
   go_ret
   exact⟨vf,rfl,HF.out,HB4.out⟩
theorem yu (a b:Nat)(hla:(ah a).length≤70000)(hlb:(ah b).length≤70000):z1U a b:=by
 intro v1 v2 w h1 h2
 by_cases h:(ah a).length≤2∧(ah b).length≤2
 · exact uj v1 v2 a b h.1 h.2 w h1 h2
 · exact vS v1 v2 a b (by omega) hla hlb w h1 h2
open Go.RowKit Go.Gb
def FitL (z:Int):Prop:=Sm 1900 z.natAbs
theorem FitL.z {z:Int}(h:FitL z):FitZ z:=by unfold FitZ Fit;exact Sm.mono (k:=1900) h (by decide)
theorem FitL.succ {z:Int}(h:FitL z):Fit (z.natAbs+1):=by
 have h1:Sm 1900 1:=(show Sm 1 1 by simp[Sm]).mono (by decide)
 unfold Fit;exact Sm.mono (Sm.add (show Sm 1900 z.natAbs from h) h1) (by decide)
theorem fl1:FitL 1:=(show Sm 1 1 by simp[Sm]).mono (by decide)
theorem fl2:FitL 2:=(show Sm 1 2 by simp[Sm]).mono (by decide)
theorem FitL.of {k:Nat}{z:Int}(h:Sm k z.natAbs)(hk:k≤1900):FitL z:=h.mono hk
theorem FitL.neg {z:Int}(h:FitL z):FitL (-z):=by unfold FitL;rwa [Int.natAbs_neg]
theorem FitL.le {x y:Int}(h:FitL y)(hx:x.natAbs≤y.natAbs):FitL x:=Sm.le h hx
theorem FitL.nat {n:Nat}(h:Sm 1900 n):FitL (n:Int):=by unfold FitL;rwa [Int.natAbs_natCast]
theorem iT:Sz 1=⟨#[49]⟩:=by decide +kernel
theorem um:Sz 0=⟨#[48]⟩:=by decide +kernel
theorem z3q:Sz 2=⟨#[50]⟩:=by decide +kernel
theorem yH {x y:Int}(h:x≠y):((Sz x).toList==(Sz y).toList)=false:=by
 rw[beq_eq_false_iff_ne,toList_data,toList_data]
 intro h2
 apply h
 rw[← vY x,h2,vY]
theorem iU {x:Int}(h:x≠1):((Sz x).toList==[49])=false:=by
 have:=yH h
 rw[iT,toList_data ⟨#[49]⟩]at this
 exact this
theorem uo {x:Int}(h:x≠0):((Sz x).toList==[48])=false:=by
 have:=yH h
 rw[um,toList_data ⟨#[48]⟩]at this
 exact this
theorem yX (a:ByteArray)(s:Int)(w:World)
 (hc:CR 120 #[.string a] w (.tuple #[.int .i64 s,.int .i64 0])) :
 CR 71 #[.string a] w (.int .i64 s):=by
 have HC:=hid hc
 clear hc
 go_enter func71,ntmps71
 go_wp2_with fail
 refine HC.out.mono ?_
 rintro e w1 ⟨rfl,hb⟩
 go_wp2
 go_ret
 exact⟨rfl,hb⟩
theorem z0P (a:ByteArray)(r:ByteArray)(w:World)
 (hc:CR 124 #[.string a] w (.tuple #[.string r,.int .i64 0])) :
 CR 77 #[.string a] w (.string r):=by
 have HC:=hid hc
 clear hc
 go_enter func77,ntmps77
 go_wp2_with fail
 refine HC.out.mono ?_
 rintro e w1 ⟨rfl,hb⟩
 go_wp2
 go_ret
 exact⟨rfl,hb⟩
theorem xE (a:ByteArray)(b:ByteArray)(s:Int)(w:World)
 (hc:CR 136 #[.string a,.string b] w (.tuple #[.int .i64 s,.int .i64 0])) :
 CR 88 #[.string a,.string b] w (.int .i64 s):=by
 have HC:=hid hc
 clear hc
 go_enter func88,ntmps88
 go_wp2_with fail
 refine HC.out.mono ?_
 rintro e w1 ⟨rfl,hb⟩
 go_wp2
 go_ret
 exact⟨rfl,hb⟩
theorem yZ (a:ByteArray)(b:ByteArray)(r:ByteArray)(w:World)
 (hc:CR 151 #[.string a,.string b] w (.tuple #[.string r,.int .i64 0])) :
 CR 109 #[.string a,.string b] w (.string r):=by
 have HC:=hid hc
 clear hc
 go_enter func109,ntmps109
 go_wp2_with fail
 refine HC.out.mono ?_
 rintro e w1 ⟨rfl,hb⟩
 go_wp2
 go_ret
 exact⟨rfl,hb⟩
theorem xD (a:ByteArray)(b:ByteArray)(r:ByteArray)(w:World)
 (hc:CR 110 #[.string a,.string b] w (.tuple #[.string r,.int .i64 0])) :
 CR 60 #[.string a,.string b] w (.string r):=by
 have HC:=hid hc
 clear hc
 go_enter func60,ntmps60
 go_wp2_with fail
 refine HC.out.mono ?_
 rintro e w1 ⟨rfl,hb⟩
 go_wp2
 go_ret
 exact⟨rfl,hb⟩
theorem z0N (a:ByteArray)(b:ByteArray)(r r2:ByteArray)(w:World)(hb1:(b.toList==[49])=false)
 (hc:CR 55 #[.string a,.string b] w (.tuple #[.string r,.string r2,.int .i64 0])) :
 CR 79 #[.string a,.string b] w (.string r):=by
 have HC:=hid hc
 clear hc
 go_enter func79,ntmps79
 go_wp2_with fail
 refine HC.out.mono ?_
 rintro e w1 ⟨rfl,hb⟩
 go_wp2
 go_ret
 exact⟨rfl,hb⟩
theorem ik (x s:Int)(hs:x.sign=s)(hx:FitL x)(w:World)(hl:La w) :
 CR 71 #[.string (Sz x)] w (.int .i64 s):=by
 subst hs;exact yX _ _ w (z4g x hx.z w hl)
theorem rneg (x y:Int)(h : -x=y)(hx:FitL x)(w:World)(hl:La w) :
 CR 77 #[.string (Sz x)] w (.string (Sz y)):=by
 subst h;exact z0P _ _ w (zNeg x hx.z w hl)
theorem z2g (x y c:Int)(hc:cmpZ x y=c)(hx:FitL x)(hy:FitL y)(w:World)(hl:La w) :
 CR 88 #[.string (Sz x),.string (Sz y)] w (.int .i64 c):=xE _ _ _ w (z0t x y c hc hx.z hy.z w hl)
theorem z3B (x y z:Int)(hz:x+y=z)(hx:FitL x)(hy:FitL y)(fz:FitL z)(w:World)(hl:La w) :
 CR 109 #[.string (Sz x),.string (Sz y)] w (.string (Sz z)):=yZ _ _ _ w (zAdd x y z hz hx.z hy.z fz.z w hl)
theorem mJ (x y z:Int)(hz:x*y=z)(hx:FitL x)(hy:FitL y)(fz:FitL z)(w:World)(hl:La w) :
 CR 60 #[.string (Sz x),.string (Sz y)] w (.string (Sz z)):=xD _ _ _ w (zMul x y z hz hx.z hy.z fz.z w hl)
theorem z0O (a:ByteArray)(w:World) :
 CR 79 #[.string a,.string ⟨#[49]⟩] w (.string a):=by
 go_enter func79,ntmps79
 go_wp2
 go_ret
 exact⟨rfl,Below.refl _ _⟩
theorem rquo (x y q:Int)(hy:y≠0)(hq:x / y=q)(hx:FitL x)(fy:FitL y)(w:World)(hl:La w) :
 CR 79 #[.string (Sz x),.string (Sz y)] w (.string (Sz q)):=by
 by_cases h1:y=1
 · subst h1
   obtain rfl:x=q:=by rw[← hq,Int.ediv_one]
   rw[iT]
   exact z0O _ w
 · exact z0N _ _ _ _ w (iU h1) (oQ x y q _ hy hq rfl hx.z fy.z hx.succ w hl)
theorem z2v (z:Int):(⟨(Lib.trimPrefix (Sz z).data.toList [45]).toArray⟩:ByteArray)=Sn z.natAbs:=by
 rcases bK z with⟨n,hn,rfl⟩|rfl|⟨n,hn,rfl⟩
 · rw[iV hn,Int.natAbs_neg,Int.natAbs_natCast]
   simp[Lib.trimPrefix,Lib.hasPrefix,List.isPrefixOf,Sn]
 · decide +kernel
 · rw[dw,Int.natAbs_natCast,bO]
   obtain⟨c,t,h,hc⟩:=jv (n:=n)
   have hp:Lib.hasPrefix (Lib.decDigits n) [45]=false:=by
    rw[h]
    have:¬ 45=c:=fun h2=>hc h2.symm
    simp[Lib.hasPrefix,List.isPrefixOf,this]
   unfold Lib.trimPrefix
   rw[hp]
   rfl
theorem rR (z:Int)(hz:FitL z)(w:World) :
 Calls Tryz.prog 127 #[.string (Sz z)] w fun e w'=>∃ v,e=.returned v∧Own .u64 141 w.heap.size w' v (ah z.natAbs)∧Below w.heap.size w w':=by
 have HP:=hid (show ∀ W,Calls Tryz.prog 172 #[.string (Sz z),.string ⟨#[45]⟩] W fun e w'=>e=.returned (.string (Sn z.natAbs))∧W=w' from fun W=>by
  refine(Tryz.strings_TrimPrefix _ _ W).mono ?_
  rintro e w' ⟨rfl,hw⟩
  refine⟨?_,by first|exact hw.symm|exact hw⟩
  rw[show(⟨#[45]⟩:ByteArray).data.toList=[45]from rfl,z2v])
 have HR:=hid (fO (Sn z.natAbs) (by rw[bO];exact iL _) (by have:=(FitL.z hz).size;omega) w)
 rw[bL]at HR
 generalize Sz z=a at *
 generalize Sn z.natAbs=b at *
 clear hz
 go_enter func127,ntmps127
 go_wp2_with fail
 refine(HP.out _).mono ?_
 rintro e w' ⟨rfl,rfl⟩
 go_wp2_with fail
 refine HR.out.mono ?_
 rintro e w1 ⟨v,rfl,ho,hb⟩
 have HO:=hid ho
 clear ho
 go_wp2
 go_ret
 exact⟨v,rfl,HO.out,hb⟩
theorem uD (a b c:ByteArray)(x y g:Nat)(h1:(a.toList==[49])=false)(h2:(b.toList==[49])=false)(w:World)(hl:La w)
 (ha:∀ W,Calls Tryz.prog 127 #[.string a] W fun e w'=>∃ v,e=.returned v∧Own .u64 141 W.heap.size w' v (ah x)∧Below W.heap.size W w')
 (hb:∀ W,Calls Tryz.prog 127 #[.string b] W fun e w'=>∃ v,e=.returned v∧Own .u64 141 W.heap.size w' v (ah y)∧Below W.heap.size W w')
 (hok:∀ (v1 v2:Value) (w:World),Rd .u64 w v1 (ah x)→Rd .u64 w v2 (ah y)→Calls Tryz.prog 126 #[v1,v2] w fun e w'=>∃ v,e=.returned v∧Own .u64 141 w.heap.size w' v (ah g)∧Below w.heap.size w w')
 (hw:∀ (v:Value) (w:World),Rd .u64 w v (ah g)→Tb w→CR 125 #[v] w (.string c)) :
 CR 78 #[.string a,.string b] w (.string c):=by
 have HA:=hid ha
 have HB:=hid hb
 have HK:=hid hok
 have HW:=hid hw
 have HT:=hid hl.tb
 clear ha hb hok hw hl
 go_enter func78,ntmps78
 go_wp2_with fail
 refine(HA.out _).mono ?_
 rintro e w1 ⟨v1,rfl,ho1,hb1⟩
 have HB1:=hid hb1
 have HO1:=hid ho1
 clear hb1 ho1
 go_wp2_with fail
 refine(HB.out _).mono ?_
 rintro e w2 ⟨v2,rfl,ho2,hb2⟩
 have HB2:=hbt HB1 hb2
 have hm:=hid (HK.out v1 v2 w2 (HO1.out.rd.below hb2) ho2.rd)
 clear hb2 ho2
 go_wp2_with fail
 refine hm.out.mono ?_
 rintro e w3 ⟨v3,rfl,ho3,hb3⟩
 have HB3:=hbt HB2 hb3
 have hwr:=hid (HW.out v3 w3 ho3.rd (HT.out.on HB3.out))
 clear hb3 ho3
 go_wp2_with fail
 refine hwr.out.mono ?_
 rintro e w4 ⟨rfl,hb4⟩
 have HB4:=hbt HB3 hb4
 clear hb4
 go_wp2
 go_ret
 exact⟨rfl,HB4.out⟩
theorem rX (b:ByteArray)(w:World) :
 CR 78 #[.string ⟨#[49]⟩,.string b] w (.string ⟨#[49]⟩):=by
 go_enter func78,ntmps78
 go_wp2
 go_ret
 exact⟨rfl,Below.refl _ _⟩
theorem rW (a:ByteArray)(h1:(a.toList==[49])=false)(w:World) :
 CR 78 #[.string a,.string ⟨#[49]⟩] w (.string ⟨#[49]⟩):=by
 go_enter func78,ntmps78
 go_wp2
 go_ret
 exact⟨rfl,Below.refl _ _⟩
theorem kH {z:Int}(h:FitL z):(ah z.natAbs).length≤70000:=Nat.le_trans (gq (show Sm 1900 z.natAbs from h) (by decide)) (by decide)
theorem qa (x y g:Int)(hg:((Nat.gcd x.natAbs y.natAbs:Nat):Int)=g)(hx:FitL x)(hy:FitL y)(w:World)(hl:La w) :
 CR 78 #[.string (Sz x),.string (Sz y)] w (.string (Sz g)):=by
 subst hg
 by_cases h1:x=1
 · subst h1
   rw[show Nat.gcd (1:Int).natAbs y.natAbs=1 from Nat.gcd_one_left _,show((1:Nat):Int)=1 from rfl,iT]
   exact rX _ w
 · by_cases h2:y=1
   · subst h2
     rw[show Nat.gcd x.natAbs (1:Int).natAbs=1 from Nat.gcd_one_right _,show((1:Nat):Int)=1 from rfl,iT]
     exact rW _ (iU h1) w
   · have hlg:(ah (Nat.gcd x.natAbs y.natAbs)).length≤100000:=by
        rcases Nat.eq_zero_or_pos x.natAbs with h|h
        · rw[h,Nat.gcd_zero_left];exact Nat.le_trans (kH hy) (by decide)
        · exact Nat.le_trans (Nat.le_trans (aJ (Nat.gcd_le_left _ h)) (kH hx)) (by decide)
     refine uD _ _ _ x.natAbs y.natAbs _ (iU h1) (iU h2) w hl (fun W=>rR x hx W) (fun W=>rR y hy W) (yu _ _ (kH hx) (kH hy)) (fun v W hr ht=>?_)
     rw[dw]
     exact iD v _ hlg W hr ht
end Go.Proofs.YtmigpoiajkihhaaGreatDoor
set_option maxRecDepth 100000
set_option maxHeartbeats 20000000
open Go.Lib (hid)
namespace Go.Proofs.YtmigpoiajkihhaaGreatDoor
open Go.RowKit Go.Gb
theorem z09 (c:UInt8)(s:ByteArray)(hs:s.size≤100000)(w:World) :
 CR 114 #[.string s,.string ⟨#[c]⟩] w (.tuple #[.string ⟨(Lib.cut s.data.toList [c]).1.toArray⟩,.string ⟨(Lib.cut s.data.toList [c]).2.1.toArray⟩,.bool (Lib.cut s.data.toList [c]).2.2]):=by
 have hdl:(⟨#[c]⟩:ByteArray).data.toList=[c]:=rfl
 have hsz:(⟨#[c]⟩:ByteArray).size=1:=rfl
 rcases Lib.indexB_cases s ⟨#[c]⟩with hix|⟨i,hix,hroom⟩
 · have h3:=Lib.cutB_miss s ⟨#[c]⟩ hix
   rw[hdl]at h3
   obtain⟨e1,e2,e3⟩:=h3
   rw[e1,e2,e3]
   have hb:Lib.indexByte s.data.toList c = -1:=by rw[← Lib.index_one];exact hix
   have HI:=hid (fun W=>Tryz.stringslite_Index_one s c W)
   rw[hb]at HI
   clear hix hb e1 e2 e3 hdl hsz
   go_enter func114,ntmps114
   go_wp2_with fail
   refine(HI.out _).mono ?_
   rintro e w' ⟨rfl,rfl⟩
   go_wp2
   go_ret3
   exact⟨rfl,Below.refl _ _⟩
 · have h3:=Lib.cutB_hit s ⟨#[c]⟩ i hix
   rw[hdl]at h3
   obtain⟨e1,e2,e3⟩:=h3
   rw[e1,e2,e3]
   have hb:Lib.indexByte s.data.toList c=i:=by rw[← Lib.index_one];exact hix
   have HI:=hid (fun W=>Tryz.stringslite_Index_one s c W)
   rw[hb]at HI
   have c1:(0:Int) ≤ ↑i:=by omega
   have c2:(↑i:Int) ≤ ↑s.size:=by omega
   have c3:(0:Int) ≤ ↑i+1:=by omega
   have c4:(↑i+1:Int) ≤ ↑s.size:=by omega
   have c5:(↑s.size:Int)≤100000:=by omega
   have c6:IntKind.i64.wrap ((i:Int)+1)=(i:Int)+1:=IntWalk.i64_in _ (by omega)
   rw[hsz]
   clear hix hb e1 e2 e3 hdl hsz hroom
   go_enter func114,ntmps114
   go_wp2_with fail
   refine(HI.out _).mono ?_
   rintro e w' ⟨rfl,rfl⟩
   go_wp2
   go_region
   go_wp2
   go_ret3
   exact⟨rfl,(Below.refl _ _).drew⟩
theorem cut1 (c:UInt8)(s:ByteArray)(hs:s.size≤100000)(w:World) :
 CR 67 #[.string s,.string ⟨#[c]⟩] w (.tuple #[.string ⟨(Lib.cut s.data.toList [c]).1.toArray⟩,.string ⟨(Lib.cut s.data.toList [c]).2.1.toArray⟩,.bool (Lib.cut s.data.toList [c]).2.2]):=by
 have HC:=hid (z09 c s hs w)
 clear hs
 generalize (⟨(Lib.cut s.data.toList [c]).1.toArray⟩:ByteArray)=a at *
 generalize (⟨(Lib.cut s.data.toList [c]).2.1.toArray⟩:ByteArray)=b at *
 generalize (Lib.cut s.data.toList [c]).2.2=f at *
 go_enter func67,ntmps67
 go_wp2_with fail
 refine HC.out.mono ?_
 rintro e w1 ⟨rfl,hb⟩
 go_wp2
 go_ret3
 exact⟨rfl,hb⟩
theorem kX (a:ByteArray)(h:a.size≤18)(w:World) :
 Calls Tryz.prog 132 #[.string a] w fun e w'=>e=.returned (.bool true)∧w=w':=by
 have h1:(a.size:Int)≤18:=by omega
 clear h
 go_enter func132,ntmps132
 go_wp2
 go_ret
 exact⟨rfl,rfl⟩
theorem rY (a:ByteArray)(h:18<a.size)(w:World) :
 Calls Tryz.prog 132 #[.string a] w fun e w'=>e=.returned (.bool false)∧w=w':=by
 have h1:decide ((a.size:Int)≤18)=false:=by rw[decide_eq_false_iff_not];omega
 clear h
 go_enter func132,ntmps132
 go_wp2
 go_ret
 exact⟨by first|rfl|(rw[h1]),rfl⟩
theorem ou (z:Int)(hs:(Sz z).size≤18)(w:World) :
 CR 134 #[.string (Sz z)] w (.int .i64 z):=by
 have HP:=hid (z1d hs)
 have HM:=hid (show(Sz z).size≤9223372036854775806 by omega)
 generalize Sz z=s at *
 clear hs
 go_enter func134,ntmps134
 go_wp2_with fail
 refine(Tryz.strconv_ParseInt_10_at64_ok s HM.out _ HP.out _).mono ?_
 rintro e w' ⟨rfl,hw⟩
 have hb:Below w.heap.size w w':=by
  rcases hw with rfl|⟨t,rfl⟩
  · exact Below.refl _ _
  · exact Lib.bytesWorld_below w _ t
 clear hw
 go_wp2
 go_ret
 exact⟨rfl,hb⟩
theorem zM (a:Int):max a (-a)=(a.natAbs:Int):=by omega
theorem rgcd (a b:Int)(ha:a.natAbs<4611686018427387904)(hb:b.natAbs<4611686018427387904)(w:World) :
 CR 133 #[.int .i64 a,.int .i64 b] w (.int .i64 ((Nat.gcd a.natAbs b.natAbs:Nat):Int)):=by
 have m1:=zM a
 have m2:=zM b
 have w1:IntKind.i64.wrap (-a) = -a:=IntWalk.i64_in _ (by omega)
 have w2:IntKind.i64.wrap (-b) = -b:=IntWalk.i64_in _ (by omega)
 obtain⟨x,hx⟩:∃ x:Nat,a.natAbs=x:=⟨_,rfl⟩
 obtain⟨y,hy⟩:∃ y:Nat,b.natAbs=y:=⟨_,rfl⟩
 rw[hx]at m1
 rw[hy]at m2
 rw[hx,hy]
 have HX:=hid (show x<4611686018427387904 by omega)
 have HY:=hid (show y<4611686018427387904 by omega)
 obtain⟨g,hg⟩:∃ g:Nat,Nat.gcd x y=g:=⟨_,rfl⟩
 rw[hg]
 have HG:=hid hg
 clear hx hy hg ha hb
 go_enter func133,ntmps133
 go_wp2
 clear m1 m2 w1 w2
 go_loopw [0,1] (fun u v W=>∃ p q:Nat,Hid (p<4611686018427387904∧q<4611686018427387904∧Nat.gcd p q=g)∧Below w.heap.size w W∧u=.int .i64 p∧v=.int .i64 q) (fun _ v _=>(intOf v).toNat)
 case atStart=>exact⟨x,y,hid ⟨HX.out,HY.out,HG.out⟩,Below.refl _ _,rfl,rfl⟩
 case round =>
  obtain⟨p,q,hr,hB,rfl,rfl⟩:=hrel
  have HB:=hid hB
  clear hB
  by_cases hq:0<q
  · have hq1:(0:Int)<(q:Int):=by omega
    have hq2:¬ (q:Int)=0:=by omega
    have hp1:(p:Int)<4611686018427387904:=by have:=hr.out.1;omega
    have hp2:(0:Int)≤(p:Int):=by omega
    have hq3:(q:Int)<4611686018427387904:=by have:=hr.out.2.1;omega
    go_wp2
    go_region
    all_goals
        go_wp2
        go_roundw
        case rel=>exact⟨q,p%q,hid ⟨by omega,by have:=Nat.mod_lt p hq;omega,by rw[Nat.gcd_comm,← Nat.gcd_rec,Nat.gcd_comm];exact hr.out.2.2⟩,HB.out.drew,rfl,by go_num⟩
        case measure=>have:=Nat.mod_lt p hq;simp[intOf];omega
  · obtain rfl:q=0:=by omega
    have hg:=hr.out.2.2
    rw[Nat.gcd_zero_right]at hg
    subst hg
    go_wp2
    go_ret
    exact⟨rfl,HB.out⟩
end Go.Proofs.YtmigpoiajkihhaaGreatDoor
set_option maxRecDepth 100000
set_option maxHeartbeats 20000000
open Go.Lib (hid)
namespace Go.Proofs.YtmigpoiajkihhaaGreatDoor
open Go.RowKit Go.Gb
theorem q_lt {w:World}{o:Obj}{b k:Nat}(h:b<w.heap.size:=by first|omega|(simp;done)|(simp;omega)):(w.alloc o).cell? ⟨b,k,none⟩=w.cell? ⟨b,k,none⟩:=((Below.refl w.heap.size w).alloc (Nat.le_refl _) o).cell (p:=⟨b,k,none⟩) h
theorem aW {w:World}{cs:Array Value}{T:TypeId}{g k:Nat}(h:g=w.heap.size:=by first|omega|(simp;done)|(simp;omega)):(w.alloc (.cells cs T)).cell? ⟨g,k,none⟩=cs[k]? := by subst h;unfold World.cell?;simp only[heap_alloc_new];simp
theorem gL {w:World}{o:Obj}{b k:Nat}(h:b<w.heap.size:=by first|omega|(simp;done)|(simp;omega)):(w.alloc o).frozen? ⟨b,k,none⟩=w.frozen? ⟨b,k,none⟩:=((Below.refl w.heap.size w).alloc (Nat.le_refl _) o).frozen (p:=⟨b,k,none⟩) h
theorem bT {w:World}{cs:Array Value}{T:TypeId}{g k:Nat}(h:g=w.heap.size:=by first|omega|(simp;done)|(simp;omega)):(w.alloc (.cells cs T)).frozen? ⟨g,k,none⟩=false:=by subst h;unfold World.frozen?;simp only[heap_alloc_new];simp
theorem dm {w:World}{v:Value}{b c i k:Nat}(h:c≠b):(w.setCell ⟨b,i,none⟩ v).cell? ⟨c,k,none⟩=w.cell? ⟨c,k,none⟩:=World.cell?_of_block (w:=w) (Below.heap_setCell w ⟨b,i,none⟩ v c h)
theorem av {w0 a b:World}(h:Below w0.heap.size w0 a)(k:Below a.heap.size a b):Below w0.heap.size w0 b:=h.trans (k.mono h.size)
theorem z1t (n m d:ByteArray)(w:World)(hl:La w)
 (hc:CL 77 #[.string n] (.string m)) :
 CR 73 #[.agg #[.string n,.string d]] w (.agg #[.string m,.string d]):=by
 have C1:=hid hc
 obtain⟨w0,hw0⟩:∃ w0:World,w0=((w.alloc (.cells #[.string n,.string d] 44)).alloc (.cells #[.string ⟨#[]⟩,.string ⟨#[]⟩] 44)):=⟨_,rfl⟩
 have hz0:w0.heap.size=w.heap.size+2:=by rw[hw0];simp
 have hB0:Below w.heap.size w w0:=by
  rw[hw0]
  repeat (first|exact Below.refl _ _|refine Below.setCell ?_ (by first|omega|(simp;omega)|simp) _|refine Below.alloc ?_ (by first|omega|(simp;omega)|simp) _|refine Below.drew ?_)
 have hS0:w0.cell? ⟨w.heap.size,0,none⟩=some (.string n)∧w0.cell? ⟨w.heap.size,1,none⟩=some (.string d):=by rw[hw0];exact⟨((q_lt).trans ((aW).trans rfl)),((q_lt).trans ((aW).trans rfl))⟩
 have KS:=hid (show ∀ W:World,Below w0.heap.size w0 W→(W.cell? ⟨w.heap.size,0,none⟩=some (.string n)∧W.cell? ⟨w.heap.size,1,none⟩=some (.string d)) from fun W hB=>by
  obtain⟨c0,c1⟩:=hS0
  exact⟨(hB.cell (p:=⟨w.heap.size,0,none⟩) (by show w.heap.size<_;omega)).trans c0,(hB.cell (p:=⟨w.heap.size,1,none⟩) (by show w.heap.size<_;omega)).trans c1⟩)
 have KZ:=hid (show ∀ W:World,Below w0.heap.size w0 W→w.heap.size+2≤W.heap.size from fun W hB=>by have:=hB.size;omega)
 have KB:=hid (show ∀ W:World,Below w0.heap.size w0 W→Below w.heap.size w W from fun W hB=>hB0.trans (hB.mono (by omega)))
 have hR0:w0.cell? ⟨w.heap.size+1,0,none⟩=some (.string ⟨#[]⟩)∧w0.cell? ⟨w.heap.size+1,1,none⟩=some (.string ⟨#[]⟩)∧w0.frozen? ⟨w.heap.size+1,0,none⟩=false∧w0.frozen? ⟨w.heap.size+1,1,none⟩=false:=by rw[hw0];exact⟨((aW).trans rfl),((aW).trans rfl),(bT),(bT)⟩
 have KR:=hid (show ∀ W:World,Below w0.heap.size w0 W→(W.cell? ⟨w.heap.size+1,0,none⟩=some (.string ⟨#[]⟩)∧W.cell? ⟨w.heap.size+1,1,none⟩=some (.string ⟨#[]⟩)∧W.frozen? ⟨w.heap.size+1,0,none⟩=false∧W.frozen? ⟨w.heap.size+1,1,none⟩=false) from fun W hB=>by
  obtain⟨c0,c1,f0,f1⟩:=hR0
  exact⟨(hB.cell (p:=⟨w.heap.size+1,0,none⟩) (by show w.heap.size+1<_;omega)).trans c0,(hB.cell (p:=⟨w.heap.size+1,1,none⟩) (by show w.heap.size+1<_;omega)).trans c1,(hB.frozen (p:=⟨w.heap.size+1,0,none⟩) (by show w.heap.size+1<_;omega)).trans f0,(hB.frozen (p:=⟨w.heap.size+1,1,none⟩) (by show w.heap.size+1<_;omega)).trans f1⟩)
 clear hR0
 have KT0:=hid (show ∀ (W:World) (v u:Value),Below w0.heap.size w0 W→(((W.setCell ⟨w.heap.size+1,0,none⟩ v).setCell ⟨w.heap.size+1,1,none⟩ u).cell? ⟨w.heap.size,0,none⟩=some (.string n)∧((W.setCell ⟨w.heap.size+1,0,none⟩ v).setCell ⟨w.heap.size+1,1,none⟩ u).cell? ⟨w.heap.size,1,none⟩=some (.string d)) from fun W v u hB=>by
  have hh:=KS.out W hB
  obtain⟨c0,c1⟩:=hh
  exact⟨(dm (by omega)).trans ((dm (by omega)).trans c0),(dm (by omega)).trans ((dm (by omega)).trans c1)⟩)
 have F0:=hid (Below.refl w0.heap.size w0)
 have HW0:=hid hw0
 clear hz0 hB0 hS0 hw0
 have HL:=hid (show ∀ W:World,Below w0.heap.size w0 W→La W from fun W hB=>hl.on (KB.out W hB))
 clear hl hc
 go_enter func73,ntmps73
 go_wp2_with fail
 rw[← HW0.out]
 go_wp2_with fail
 go_region_held3 (fun w'=>w'.cell? ⟨w.heap.size,0,none⟩=some (.string n)∧w'.cell? ⟨w.heap.size,1,none⟩=some (.string d)) (first|exact KS.out _ F1.out|exact KS.out _ F1.out.drew|exact KS.out _ F0.out|exact KS.out _ F0.out.drew|exact KT0.out _ _ _ F1.out|exact KT0.out _ _ _ F1.out.drew)
  (first
   | (go_at_call 77;(with_reducible refine(C1.out _ ?la0).mono ?_);(case la0=>first|exact HL.out _ F0.out|exact HL.out _ F0.out.drew);rintro e w1 ⟨rfl,hb⟩;have F1:=hid (show Below w0.heap.size w0 w1 by first|exact av F0.out hb|exact av F0.out.drew hb);clear hb;have hz:=KZ.out _ F1.out;obtain⟨m0,m1,n0,n1⟩:=KR.out _ F1.out)
   | fail)
 all_goals
  have hz:=KZ.out _ F1.out
  go_wp2
  refine bodyPost_ret (v:=.agg #[.string m,.string d]) (by simp[results,results73,go_sem,m0,m1]) rfl ⟨rfl,?_⟩
  repeat (first|exact KB.out _ F1.out|refine Below.setCell ?_ (by first|omega|(simp;omega)|simp) _|refine Below.alloc ?_ (by first|omega|(simp;omega)|simp) _|refine Below.drew ?_)
end Go.Proofs.YtmigpoiajkihhaaGreatDoor
