/- Texts of this proof, one behind the other. -/
import Derived.Test.YthjmjlfnpnbonaaGreatDoorMz34q
set_option maxRecDepth 100000
set_option maxHeartbeats 20000000
open Go.Lib (hid)
namespace Go.Proofs.YthjmjlfnpnbonaaGreatDoor
open Go.RowKit Go.Gb
theorem eu_start {B a b:Nat}{u1 u2 u3 u4:Value}{P Q:Nat}{w:World}(hB:B≤w.heap.size)(o1:Own .u64 110 B w u1 (digs a))(o2:Own .u64 110 B w u2 (digs b))(o3:Own .u64 110 B w u3 (digs P))(o4:Own .u64 110 B w u4 (digs Q))
 (a12:Apt u1 u2) (a13:Apt u1 u3) (a14:Apt u1 u4) (a23:Apt u2 u3) (a24:Apt u2 u4) (a34:Apt u3 u4) (n:Bool) :
 EuSt B (w.alloc (.cells #[u1,u2,u3,u4,.bool n] 199)) w.heap.size a b P Q n:=by
 have hb:=(Below.refl _ w).alloc (Nat.le_refl _) (.cells #[u1,u2,u3,u4,.bool n] 199)
 refine⟨u1,u2,u3,u4,?_,hB,⟨o1.below hb,o2.below hb,o3.below hb,o4.below hb,a12,a13,a14,a23,a24,a34⟩⟩
 unfold Eb
 rw[heap_alloc_new]
theorem Common_long (v1 v2:Value)(a b:Nat)(hl:2<(digs a).length∨2<(digs b).length)(hla:(digs a).length≤70000)(hlb:(digs b).length≤70000)(w:World)(h1:Rd .u64 w v1 (digs a))(h2:Rd .u64 w v2 (digs b)) :
 Calls Tryz.prog 141 #[v1,v2] w fun e w'=>∃ v,e=.returned v∧Own .u64 110 w.heap.size w' v (digs (Nat.gcd a b))∧Below w.heap.size w w':=by
 have hlN:(digs (a+b)).length≤80000:=by
  have:=digs_add_len hla hlb
  omega
 have HI:=hid (CmI.keeps hlN)
 have HC1:=hid (Clone_any v1 (digs a) (by omega) w h1)
 have HC2:=hid (fun W (h:Rd .u64 W v2 (digs b))=>Clone_any v2 (digs b) (by omega) W h)
 have HR2:=hid h2
 by_cases hs:(digs a).length≤2
 · have s1:=hid (isShort_yes v1 _ hs w h1)
   have s2:=hid (isShort_no v2 _ (by omega) (by omega) w h2)
   clear hl hla hlb h1 h2 hlN hs
   go_enter Tryz.func141,Tryz.ntmps141
   go_wp2_with fail
   refine s1.out.mono ?_
   rintro e w' ⟨rfl,rfl⟩
   go_wp2_with fail
   refine s2.out.mono ?_
   rintro e w' ⟨rfl,rfl⟩
   clear s1 s2
   go_wp2_with fail
   refine HC1.out.mono ?_
   rintro e w1 ⟨u1,rfl,ho1,hb1⟩
   obtain⟨a1,c1,rfl⟩:=rd_form ho1.rd
   have HO1:=hid ho1
   have HB1:=hid hb1
   have HD2:=hid (HC2.out w1 (HR2.out.below hb1))
   clear ho1 hb1
   go_wp2_with fail
   refine HD2.out.mono ?_
   rintro e w2 ⟨u2,rfl,ho2,hb2⟩
   obtain⟨a2,c2,rfl⟩:=rd_form ho2.rd
   have hB2:=HB1.out.trans (hb2.mono HB1.out.size)
   have hst:=eu_start (n:=false) hB2.size (HO1.out.below hb2) (ho2.mono HB1.out.size) (u3:=.slice none 0 0) (u4:=.slice none 0 0) (P:=0) (Q:=0) (by rw[digs_zero];exact Own.nil _ _ _ _) (by rw[digs_zero];exact Own.nil _ _ _ _)
    (own_fresh ho2 _ (fun g hg=>(HO1.out.at hg).2)).symm (Apt.nil_right _ _ _) (Apt.nil_right _ _ _) (Apt.nil_right _ _ _) (Apt.nil_right _ _ _) (Apt.nil_right _ _ _)
   have hB3:=hB2.alloc hB2.size (.cells #[.slice a1 (digs a).length c1,.slice a2 (digs b).length c2,.slice none 0 0,.slice none 0 0,.bool false] 199)
   have HRun:=hid (eRun _ HI.out w.heap.size w2.heap.size a b 0 0 false ⟨Nat.le_refl _,rfl,rfl⟩ _ hst hB3.size)
   have HB3:=hid hB3
   clear ho2 hb2 hB2 hst hB3 HO1 HB1 HC1 HC2 HD2 HR2
   go_wp2_with fail
   refine HRun.out.mono ?_
   rintro e w4 ⟨P',Q',n',rfl,hE,_,hb4⟩
   have HB4:=hid (HB3.out.trans hb4)
   obtain⟨vf,vs,vp,vq,hEb,_,L⟩:=hE.out
   obtain⟨c0,_,_,_,_⟩:=hEb.cells
   have HF:=hid L.f
   clear hE hEb L hb4 HRun
   go_wp2
   go_ret
   exact⟨vf,rfl,HF.out,HB4.out⟩
 · have s1:=hid (isShort_no v1 _ (by omega) (by omega) w h1)
   clear hl hla hlb h1 h2 hlN hs
   go_enter Tryz.func141,Tryz.ntmps141
   go_wp2_with fail
   refine s1.out.mono ?_
   rintro e w' ⟨rfl,rfl⟩
   clear s1
   go_wp2_with fail
   refine HC1.out.mono ?_
   rintro e w1 ⟨u1,rfl,ho1,hb1⟩
   obtain⟨a1,c1,rfl⟩:=rd_form ho1.rd
   have HO1:=hid ho1
   have HB1:=hid hb1
   have HD2:=hid (HC2.out w1 (HR2.out.below hb1))
   clear ho1 hb1
   go_wp2_with fail
   refine HD2.out.mono ?_
   rintro e w2 ⟨u2,rfl,ho2,hb2⟩
   obtain⟨a2,c2,rfl⟩:=rd_form ho2.rd
   have hB2:=HB1.out.trans (hb2.mono HB1.out.size)
   have hst:=eu_start (n:=false) hB2.size (HO1.out.below hb2) (ho2.mono HB1.out.size) (u3:=.slice none 0 0) (u4:=.slice none 0 0) (P:=0) (Q:=0) (by rw[digs_zero];exact Own.nil _ _ _ _) (by rw[digs_zero];exact Own.nil _ _ _ _)
    (own_fresh ho2 _ (fun g hg=>(HO1.out.at hg).2)).symm (Apt.nil_right _ _ _) (Apt.nil_right _ _ _) (Apt.nil_right _ _ _) (Apt.nil_right _ _ _) (Apt.nil_right _ _ _)
   have hB3:=hB2.alloc hB2.size (.cells #[.slice a1 (digs a).length c1,.slice a2 (digs b).length c2,.slice none 0 0,.slice none 0 0,.bool false] 199)
   have HRun:=hid (eRun _ HI.out w.heap.size w2.heap.size a b 0 0 false ⟨Nat.le_refl _,rfl,rfl⟩ _ hst hB3.size)
   have HB3:=hid hB3
   clear ho2 hb2 hB2 hst hB3 HO1 HB1 HC1 HC2 HD2 HR2
   go_wp2_with fail
   refine HRun.out.mono ?_
   rintro e w4 ⟨P',Q',n',rfl,hE,_,hb4⟩
   have HB4:=hid (HB3.out.trans hb4)
   obtain⟨vf,vs,vp,vq,hEb,_,L⟩:=hE.out
   obtain⟨c0,_,_,_,_⟩:=hEb.cells
   have HF:=hid L.f
   clear hE hEb L hb4 HRun
   go_wp2
   go_ret
   exact⟨vf,rfl,HF.out,HB4.out⟩
theorem Common_any (a b:Nat)(hla:(digs a).length≤70000)(hlb:(digs b).length≤70000):CommonOk a b:=by
 intro v1 v2 w h1 h2
 by_cases h:(digs a).length≤2∧(digs b).length≤2
 · exact Common_short v1 v2 a b h.1 h.2 w h1 h2
 · exact Common_long v1 v2 a b (by omega) hla hlb w h1 h2
open Go.RowKit Go.Gb
def FitL (z:Int):Prop:=Sm 1900 z.natAbs
theorem FitL.z {z:Int}(h:FitL z):FitZ z:=by unfold FitZ Fit;exact Sm.mono (k:=1900) h (by decide)
theorem FitL.succ {z:Int}(h:FitL z):Fit (z.natAbs+1):=by
 have h1:Sm 1900 1:=(show Sm 1 1 by simp[Sm]).mono (by decide)
 unfold Fit;exact Sm.mono (Sm.add (show Sm 1900 z.natAbs from h) h1) (by decide)
theorem fl1:FitL 1:=(show Sm 1 1 by simp[Sm]).mono (by decide)
theorem FitL.of {k:Nat}{z:Int}(h:Sm k z.natAbs)(hk:k≤1900):FitL z:=h.mono hk
theorem FitL.le {x y:Int}(h:FitL y)(hx:x.natAbs≤y.natAbs):FitL x:=Sm.le h hx
theorem FitL.nat {n:Nat}(h:Sm 1900 n):FitL (n:Int):=by unfold FitL;rwa [Int.natAbs_natCast]
theorem sz_one:Sz 1=⟨#[49]⟩:=by decide +kernel
theorem sz_neq {x y:Int}(h:x≠y):((Sz x).toList==(Sz y).toList)=false:=by
 rw[beq_eq_false_iff_ne,toList_data,toList_data]
 intro h2
 apply h
 rw[← sz_val x,h2,sz_val]
theorem sz_neq1 {x:Int}(h:x≠1):((Sz x).toList==[49])=false:=by
 have:=sz_neq h
 rw[sz_one,toList_data ⟨#[49]⟩]at this
 exact this
theorem rsign_raw (a:ByteArray)(s:Int)(w:World)
 (hc:CR 121 #[.string a] w (.tuple #[.int .i64 s,.int .i64 0])) :
 CR 102 #[.string a] w (.int .i64 s):=by
 have HC:=hid hc
 clear hc
 go_enter Tryz.func102,Tryz.ntmps102
 go_wp2_with fail
 refine HC.out.mono ?_
 rintro e w1 ⟨rfl,hb⟩
 go_wp2
 go_ret
 exact⟨rfl,hb⟩
theorem rneg_raw (a:ByteArray)(r:ByteArray)(w:World)
 (hc:CR 175 #[.string a] w (.tuple #[.string r,.int .i64 0])) :
 CR 148 #[.string a] w (.string r):=by
 have HC:=hid hc
 clear hc
 go_enter Tryz.func148,Tryz.ntmps148
 go_wp2_with fail
 refine HC.out.mono ?_
 rintro e w1 ⟨rfl,hb⟩
 go_wp2
 go_ret
 exact⟨rfl,hb⟩
theorem rorder_raw (a:ByteArray)(b:ByteArray)(s:Int)(w:World)
 (hc:CR 144 #[.string a,.string b] w (.tuple #[.int .i64 s,.int .i64 0])) :
 CR 127 #[.string a,.string b] w (.int .i64 s):=by
 have HC:=hid hc
 clear hc
 go_enter Tryz.func127,Tryz.ntmps127
 go_wp2_with fail
 refine HC.out.mono ?_
 rintro e w1 ⟨rfl,hb⟩
 go_wp2
 go_ret
 exact⟨rfl,hb⟩
theorem rplus_raw (a:ByteArray)(b:ByteArray)(r:ByteArray)(w:World)
 (hc:CR 147 #[.string a,.string b] w (.tuple #[.string r,.int .i64 0])) :
 CR 130 #[.string a,.string b] w (.string r):=by
 have HC:=hid hc
 clear hc
 go_enter Tryz.func130,Tryz.ntmps130
 go_wp2_with fail
 refine HC.out.mono ?_
 rintro e w1 ⟨rfl,hb⟩
 go_wp2
 go_ret
 exact⟨rfl,hb⟩
theorem rtimes_raw (a:ByteArray)(b:ByteArray)(r:ByteArray)(w:World)
 (hc:CR 145 #[.string a,.string b] w (.tuple #[.string r,.int .i64 0])) :
 CR 128 #[.string a,.string b] w (.string r):=by
 have HC:=hid hc
 clear hc
 go_enter Tryz.func128,Tryz.ntmps128
 go_wp2_with fail
 refine HC.out.mono ?_
 rintro e w1 ⟨rfl,hb⟩
 go_wp2
 go_ret
 exact⟨rfl,hb⟩
theorem rquo_raw (a:ByteArray)(b:ByteArray)(r r2:ByteArray)(w:World)(hb1:(b.toList==[49])=false)
 (hc:CR 146 #[.string a,.string b] w (.tuple #[.string r,.string r2,.int .i64 0])) :
 CR 129 #[.string a,.string b] w (.string r):=by
 have HC:=hid hc
 clear hc
 go_enter Tryz.func129,Tryz.ntmps129
 go_wp2_with fail
 refine HC.out.mono ?_
 rintro e w1 ⟨rfl,hb⟩
 go_wp2
 go_ret
 exact⟨rfl,hb⟩
theorem rsign (x s:Int)(hs:x.sign=s)(hx:FitL x)(w:World)(hl:La w) :
 CR 102 #[.string (Sz x)] w (.int .i64 s):=by
 subst hs;exact rsign_raw _ _ w (zSign x hx.z w hl)
theorem rneg (x y:Int)(h : -x=y)(hx:FitL x)(w:World)(hl:La w) :
 CR 148 #[.string (Sz x)] w (.string (Sz y)):=by
 subst h;exact rneg_raw _ _ w (zNeg x hx.z w hl)
theorem rorder (x y c:Int)(hc:cmpZ x y=c)(hx:FitL x)(hy:FitL y)(w:World)(hl:La w) :
 CR 127 #[.string (Sz x),.string (Sz y)] w (.int .i64 c):=rorder_raw _ _ _ w (zCompare x y c hc hx.z hy.z w hl)
theorem rplus (x y z:Int)(hz:x+y=z)(hx:FitL x)(hy:FitL y)(fz:FitL z)(w:World)(hl:La w) :
 CR 130 #[.string (Sz x),.string (Sz y)] w (.string (Sz z)):=rplus_raw _ _ _ w (zAdd x y z hz hx.z hy.z fz.z w hl)
theorem rtimes (x y z:Int)(hz:x*y=z)(hx:FitL x)(hy:FitL y)(fz:FitL z)(w:World)(hl:La w) :
 CR 128 #[.string (Sz x),.string (Sz y)] w (.string (Sz z)):=rtimes_raw _ _ _ w (zMul x y z hz hx.z hy.z fz.z w hl)
theorem rquo_one (a:ByteArray)(w:World) :
 CR 129 #[.string a,.string ⟨#[49]⟩] w (.string a):=by
 go_enter Tryz.func129,Tryz.ntmps129
 go_wp2
 go_ret
 exact⟨rfl,Below.refl _ _⟩
theorem rquo (x y q:Int)(hy:y≠0)(hq:x / y=q)(hx:FitL x)(fy:FitL y)(w:World)(hl:La w) :
 CR 129 #[.string (Sz x),.string (Sz y)] w (.string (Sz q)):=by
 by_cases h1:y=1
 · subst h1
   obtain rfl:x=q:=by rw[← hq,Int.ediv_one]
   rw[sz_one]
   exact rquo_one _ w
 · exact rquo_raw _ _ _ _ w (sz_neq1 h1) (zDivMod x y q _ hy hq rfl hx.z fy.z hx.succ w hl)
theorem trimp_z (z:Int):(⟨(Lib.trimPrefix (Sz z).data.toList [45]).toArray⟩:ByteArray)=Sn z.natAbs:=by
 rcases int_cases z with⟨n,hn,rfl⟩|rfl|⟨n,hn,rfl⟩
 · rw[sz_neg hn,Int.natAbs_neg,Int.natAbs_natCast]
   simp[Lib.trimPrefix,Lib.hasPrefix,List.isPrefixOf,Sn]
 · decide +kernel
 · rw[sz_nat,Int.natAbs_natCast,sn_list]
   obtain⟨c,t,h,hc⟩:=head_dig (n:=n)
   have hp:Lib.hasPrefix (Lib.decDigits n) [45]=false:=by
    rw[h]
    have:¬ 45=c:=fun h2=>hc h2.symm
    simp[Lib.hasPrefix,List.isPrefixOf,this]
   unfold Lib.trimPrefix
   rw[hp]
   rfl
theorem rreadSize (z:Int)(hz:FitL z)(w:World) :
 Calls Tryz.prog 142 #[.string (Sz z)] w fun e w'=>∃ v,e=.returned v∧Own .u64 110 w.heap.size w' v (digs z.natAbs)∧Below w.heap.size w w':=by
 have HP:=hid (show ∀ W,Calls Tryz.prog 166 #[.string (Sz z),.string ⟨#[45]⟩] W fun e w'=>e=.returned (.string (Sn z.natAbs))∧W=w' from fun W=>by
  refine(Tryz.strings_TrimPrefix _ _ W).mono ?_
  rintro e w' ⟨rfl,hw⟩
  refine⟨?_,by first|exact hw.symm|exact hw⟩
  rw[show(⟨#[45]⟩:ByteArray).data.toList=[45]from rfl,trimp_z])
 have HR:=hid (Read_any (Sn z.natAbs) (by rw[sn_list];exact dec_all _) (by have:=(FitL.z hz).size;omega) w)
 rw[sn_dval]at HR
 generalize Sz z=a at *
 generalize Sn z.natAbs=b at *
 clear hz
 go_enter Tryz.func142,Tryz.ntmps142
 go_wp2_with fail
 refine(HP.out _).mono ?_
 rintro e w' ⟨rfl,rfl⟩
 go_wp2_with fail
 refine HR.out.mono ?_
 rintro e w1 ⟨v,rfl,ho,hb⟩
 have HO:=hid ho
 clear ho
 go_wp2
 go_ret
 exact⟨v,rfl,HO.out,hb⟩
theorem rcommon_raw (a b c:ByteArray)(x y g:Nat)(h1:(a.toList==[49])=false)(h2:(b.toList==[49])=false)(w:World)(hl:La w)
 (ha:∀ W,Calls Tryz.prog 142 #[.string a] W fun e w'=>∃ v,e=.returned v∧Own .u64 110 W.heap.size w' v (digs x)∧Below W.heap.size W w')
 (hb:∀ W,Calls Tryz.prog 142 #[.string b] W fun e w'=>∃ v,e=.returned v∧Own .u64 110 W.heap.size w' v (digs y)∧Below W.heap.size W w')
 (hok:∀ (v1 v2:Value) (w:World),Rd .u64 w v1 (digs x)→Rd .u64 w v2 (digs y)→Calls Tryz.prog 141 #[v1,v2] w fun e w'=>∃ v,e=.returned v∧Own .u64 110 w.heap.size w' v (digs g)∧Below w.heap.size w w')
 (hw:∀ (v:Value) (w:World),Rd .u64 w v (digs g)→Tb w→CR 140 #[v] w (.string c)) :
 CR 125 #[.string a,.string b] w (.string c):=by
 have HA:=hid ha
 have HB:=hid hb
 have HK:=hid hok
 have HW:=hid hw
 have HT:=hid hl.tb
 clear ha hb hok hw hl
 go_enter Tryz.func125,Tryz.ntmps125
 go_wp2_with fail
 refine(HA.out _).mono ?_
 rintro e w1 ⟨v1,rfl,ho1,hb1⟩
 have HB1:=hid hb1
 have HO1:=hid ho1
 clear hb1 ho1
 go_wp2_with fail
 refine(HB.out _).mono ?_
 rintro e w2 ⟨v2,rfl,ho2,hb2⟩
 have HB2:=hbt HB1 hb2
 have hm:=hid (HK.out v1 v2 w2 (HO1.out.rd.below hb2) ho2.rd)
 clear hb2 ho2
 go_wp2_with fail
 refine hm.out.mono ?_
 rintro e w3 ⟨v3,rfl,ho3,hb3⟩
 have HB3:=hbt HB2 hb3
 have hwr:=hid (HW.out v3 w3 ho3.rd (HT.out.on HB3.out))
 clear hb3 ho3
 go_wp2_with fail
 refine hwr.out.mono ?_
 rintro e w4 ⟨rfl,hb4⟩
 have HB4:=hbt HB3 hb4
 clear hb4
 go_wp2
 go_ret
 exact⟨rfl,HB4.out⟩
theorem rcommon_one1 (b:ByteArray)(w:World) :
 CR 125 #[.string ⟨#[49]⟩,.string b] w (.string ⟨#[49]⟩):=by
 go_enter Tryz.func125,Tryz.ntmps125
 go_wp2
 go_ret
 exact⟨rfl,Below.refl _ _⟩
theorem rcommon_one2 (a:ByteArray)(h1:(a.toList==[49])=false)(w:World) :
 CR 125 #[.string a,.string ⟨#[49]⟩] w (.string ⟨#[49]⟩):=by
 go_enter Tryz.func125,Tryz.ntmps125
 go_wp2
 go_ret
 exact⟨rfl,Below.refl _ _⟩
theorem digs_fitl {z:Int}(h:FitL z):(digs z.natAbs).length≤70000:=Nat.le_trans (sm_digs (show Sm 1900 z.natAbs from h) (by decide)) (by decide)
theorem rcommon (x y g:Int)(hg:((Nat.gcd x.natAbs y.natAbs:Nat):Int)=g)(hx:FitL x)(hy:FitL y)(w:World)(hl:La w) :
 CR 125 #[.string (Sz x),.string (Sz y)] w (.string (Sz g)):=by
 subst hg
 by_cases h1:x=1
 · subst h1
   rw[show Nat.gcd (1:Int).natAbs y.natAbs=1 from Nat.gcd_one_left _,show((1:Nat):Int)=1 from rfl,sz_one]
   exact rcommon_one1 _ w
 · by_cases h2:y=1
   · subst h2
     rw[show Nat.gcd x.natAbs (1:Int).natAbs=1 from Nat.gcd_one_right _,show((1:Nat):Int)=1 from rfl,sz_one]
     exact rcommon_one2 _ (sz_neq1 h1) w
   · have hlg:(digs (Nat.gcd x.natAbs y.natAbs)).length≤100000:=by
        rcases Nat.eq_zero_or_pos x.natAbs with h|h
        · rw[h,Nat.gcd_zero_left];exact Nat.le_trans (digs_fitl hy) (by decide)
        · exact Nat.le_trans (Nat.le_trans (digs_length_mono (Nat.gcd_le_left _ h)) (digs_fitl hx)) (by decide)
     refine rcommon_raw _ _ _ x.natAbs y.natAbs _ (sz_neq1 h1) (sz_neq1 h2) w hl (fun W=>rreadSize x hx W) (fun W=>rreadSize y hy W) (Common_any _ _ (digs_fitl hx) (digs_fitl hy)) (fun v W hr ht=>?_)
     rw[sz_nat]
     exact Write_any v _ hlg W hr ht
end Go.Proofs.YthjmjlfnpnbonaaGreatDoor
set_option maxRecDepth 100000
set_option maxHeartbeats 20000000
open Go.Lib (hid)
namespace Go.Proofs.YthjmjlfnpnbonaaGreatDoor
open Go.RowKit Go.Gb
theorem cut1_lite (c:UInt8)(s:ByteArray)(hs:s.size≤100000)(w:World) :
 CR 119 #[.string s,.string ⟨#[c]⟩] w (.tuple #[.string ⟨(Lib.cut s.data.toList [c]).1.toArray⟩,.string ⟨(Lib.cut s.data.toList [c]).2.1.toArray⟩,.bool (Lib.cut s.data.toList [c]).2.2]):=by
 have hdl:(⟨#[c]⟩:ByteArray).data.toList=[c]:=rfl
 have hsz:(⟨#[c]⟩:ByteArray).size=1:=rfl
 rcases Lib.indexB_cases s ⟨#[c]⟩with hix|⟨i,hix,hroom⟩
 · have h3:=Lib.cutB_miss s ⟨#[c]⟩ hix
   rw[hdl]at h3
   obtain⟨e1,e2,e3⟩:=h3
   rw[e1,e2,e3]
   have hb:Lib.indexByte s.data.toList c = -1:=by rw[← Lib.index_one];exact hix
   have HI:=hid (fun W=>Tryz.stringslite_Index_one s c W)
   rw[hb]at HI
   clear hix hb e1 e2 e3 hdl hsz
   go_enter Tryz.func119,Tryz.ntmps119
   go_wp2_with fail
   refine(HI.out _).mono ?_
   rintro e w' ⟨rfl,rfl⟩
   go_wp2
   go_ret3
   exact⟨rfl,Below.refl _ _⟩
 · have h3:=Lib.cutB_hit s ⟨#[c]⟩ i hix
   rw[hdl]at h3
   obtain⟨e1,e2,e3⟩:=h3
   rw[e1,e2,e3]
   have hb:Lib.indexByte s.data.toList c=i:=by rw[← Lib.index_one];exact hix
   have HI:=hid (fun W=>Tryz.stringslite_Index_one s c W)
   rw[hb]at HI
   have c1:(0:Int) ≤ ↑i:=by omega
   have c2:(↑i:Int) ≤ ↑s.size:=by omega
   have c3:(0:Int) ≤ ↑i+1:=by omega
   have c4:(↑i+1:Int) ≤ ↑s.size:=by omega
   have c5:(↑s.size:Int)≤100000:=by omega
   have c6:IntKind.i64.wrap ((i:Int)+1)=(i:Int)+1:=IntWalk.i64_in _ (by omega)
   rw[hsz]
   clear hix hb e1 e2 e3 hdl hsz hroom
   go_enter Tryz.func119,Tryz.ntmps119
   go_wp2_with fail
   refine(HI.out _).mono ?_
   rintro e w' ⟨rfl,rfl⟩
   go_wp2
   go_region
   go_wp2
   go_ret3
   exact⟨rfl,(Below.refl _ _).drew⟩
theorem cut1 (c:UInt8)(s:ByteArray)(hs:s.size≤100000)(w:World) :
 CR 100 #[.string s,.string ⟨#[c]⟩] w (.tuple #[.string ⟨(Lib.cut s.data.toList [c]).1.toArray⟩,.string ⟨(Lib.cut s.data.toList [c]).2.1.toArray⟩,.bool (Lib.cut s.data.toList [c]).2.2]):=by
 have HC:=hid (cut1_lite c s hs w)
 clear hs
 generalize (⟨(Lib.cut s.data.toList [c]).1.toArray⟩:ByteArray)=a at *
 generalize (⟨(Lib.cut s.data.toList [c]).2.1.toArray⟩:ByteArray)=b at *
 generalize (Lib.cut s.data.toList [c]).2.2=f at *
 go_enter Tryz.func100,Tryz.ntmps100
 go_wp2_with fail
 refine HC.out.mono ?_
 rintro e w1 ⟨rfl,hb⟩
 go_wp2
 go_ret3
 exact⟨rfl,hb⟩
theorem qshort_yes (a:ByteArray)(h:a.size≤18)(w:World) :
 Calls Tryz.prog 122 #[.string a] w fun e w'=>e=.returned (.bool true)∧w=w':=by
 have h1:(a.size:Int)≤18:=by omega
 clear h
 go_enter Tryz.func122,Tryz.ntmps122
 go_wp2
 go_ret
 exact⟨rfl,rfl⟩
theorem qshort_no (a:ByteArray)(h:18<a.size)(w:World) :
 Calls Tryz.prog 122 #[.string a] w fun e w'=>e=.returned (.bool false)∧w=w':=by
 have h1:decide ((a.size:Int)≤18)=false:=by rw[decide_eq_false_iff_not];omega
 clear h
 go_enter Tryz.func122,Tryz.ntmps122
 go_wp2
 go_ret
 exact⟨by first|rfl|(rw[h1]),rfl⟩
theorem rparse (z:Int)(hs:(Sz z).size≤18)(w:World) :
 CR 124 #[.string (Sz z)] w (.int .i64 z):=by
 have HP:=hid (parseI_z hs)
 have HM:=hid (show(Sz z).size≤9223372036854775806 by omega)
 generalize Sz z=s at *
 clear hs
 go_enter Tryz.func124,Tryz.ntmps124
 go_wp2_with fail
 refine(Tryz.strconv_ParseInt_10_at64_ok s HM.out _ HP.out _).mono ?_
 rintro e w' ⟨rfl,hw⟩
 have hb:Below w.heap.size w w':=by
  rcases hw with rfl|⟨t,rfl⟩
  · exact Below.refl _ _
  · exact Lib.bytesWorld_below w _ t
 clear hw
 go_wp2
 go_ret
 exact⟨rfl,hb⟩
theorem max_neg (a:Int):max a (-a)=(a.natAbs:Int):=by omega
theorem rgcd (a b:Int)(ha:a.natAbs<4611686018427387904)(hb:b.natAbs<4611686018427387904)(w:World) :
 CR 123 #[.int .i64 a,.int .i64 b] w (.int .i64 ((Nat.gcd a.natAbs b.natAbs:Nat):Int)):=by
 have m1:=max_neg a
 have m2:=max_neg b
 have w1:IntKind.i64.wrap (-a) = -a:=IntWalk.i64_in _ (by omega)
 have w2:IntKind.i64.wrap (-b) = -b:=IntWalk.i64_in _ (by omega)
 obtain⟨x,hx⟩:∃ x:Nat,a.natAbs=x:=⟨_,rfl⟩
 obtain⟨y,hy⟩:∃ y:Nat,b.natAbs=y:=⟨_,rfl⟩
 rw[hx]at m1
 rw[hy]at m2
 rw[hx,hy]
 have HX:=hid (show x<4611686018427387904 by omega)
 have HY:=hid (show y<4611686018427387904 by omega)
 obtain⟨g,hg⟩:∃ g:Nat,Nat.gcd x y=g:=⟨_,rfl⟩
 rw[hg]
 have HG:=hid hg
 clear hx hy hg ha hb
 go_enter Tryz.func123,Tryz.ntmps123
 go_wp2
 clear m1 m2 w1 w2
 go_loopw [0,1] (fun u v W=>∃ p q:Nat,Hid (p<4611686018427387904∧q<4611686018427387904∧Nat.gcd p q=g)∧Below w.heap.size w W∧u=.int .i64 p∧v=.int .i64 q) (fun _ v _=>(intOf v).toNat)
 case atStart=>exact⟨x,y,hid ⟨HX.out,HY.out,HG.out⟩,Below.refl _ _,rfl,rfl⟩
 case round =>
  obtain⟨p,q,hr,hB,rfl,rfl⟩:=hrel
  have HB:=hid hB
  clear hB
  by_cases hq:0<q
  · have hq1:(0:Int)<(q:Int):=by omega
    have hq2:¬ (q:Int)=0:=by omega
    have hp1:(p:Int)<4611686018427387904:=by have:=hr.out.1;omega
    have hp2:(0:Int)≤(p:Int):=by omega
    have hq3:(q:Int)<4611686018427387904:=by have:=hr.out.2.1;omega
    go_wp2
    go_region
    all_goals
        go_wp2
        go_roundw
        case rel=>exact⟨q,p%q,hid ⟨by omega,by have:=Nat.mod_lt p hq;omega,by rw[Nat.gcd_comm,← Nat.gcd_rec,Nat.gcd_comm];exact hr.out.2.2⟩,HB.out.drew,rfl,by go_num⟩
        case measure=>have:=Nat.mod_lt p hq;simp[intOf];omega
  · obtain rfl:q=0:=by omega
    have hg:=hr.out.2.2
    rw[Nat.gcd_zero_right]at hg
    subst hg
    go_wp2
    go_ret
    exact⟨rfl,HB.out⟩
end Go.Proofs.YthjmjlfnpnbonaaGreatDoor
