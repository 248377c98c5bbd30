/- texts -/
import Derived.Test.YtikihamjpenboaaGreatDoorMz26q
import Derived.Test.YtikihamjpenboaaGreatDoorMz37q
open Go.Proofs.Tryz
open Go.Lib (hid)
namespace Go.Proofs.YtikihamjpenboaaGreatDoor
open Go.RowKit Go.Gb
def FitL (z:Int):Prop:=Sm 1900 z.natAbs
theorem FitL.z {z:Int}(h:FitL z):FitZ z:=by unfold FitZ Fit;exact Sm.mono (k:=1900) h (by decide)
theorem FitL.succ {z:Int}(h:FitL z):Fit (z.natAbs+1):=by
 have h1:Sm 1900 1:=(show Sm 1 1 by simp[Sm]).mono (by decide);unfold Fit;exact Sm.mono (Sm.add (show Sm 1900 z.natAbs from h) h1) (by decide)
theorem fl1:FitL 1:=(show Sm 1 1 by simp[Sm]).mono (by decide)
theorem FitL.of {k:Nat}{z:Int}(h:Sm k z.natAbs)(hk:k≤1900):FitL z:=h.mono hk
theorem FitL.neg {z:Int}(h:FitL z):FitL (-z):=by unfold FitL;rwa [Int.natAbs_neg]
theorem FitL.le {x y:Int}(h:FitL y)(hx:x.natAbs≤y.natAbs):FitL x:=Sm.le h hx
theorem FitL.nat {n:Nat}(h:Sm 1900 n):FitL (n:Int):=by unfold FitL;rwa [Int.natAbs_natCast]
theorem kW:Sz 1=⟨#[49]⟩:=by decide +kernel
theorem z4F:Sz 0=⟨#[48]⟩:=by decide +kernel
theorem z4h {x y:Int}(h:x≠y):((Sz x).toList==(Sz y).toList)=false:=by
 rw[beq_eq_false_iff_ne,toList_data,toList_data];intro h2;apply h
 rw[← xJ x,h2,xJ]
theorem jy {x:Int}(h:x≠1):((Sz x).toList==[49])=false:=by
 have:=z4h h;rw[kW,toList_data ⟨#[49]⟩]at this;exact this
theorem z4G {x:Int}(h:x≠0):((Sz x).toList==[48])=false:=by
 have:=z4h h;rw[z4F,toList_data ⟨#[48]⟩]at this;exact this
theorem z0E (a:ByteArray)(s:Int)(w:World)
 (hc:CR 115 #[.string a] w (.tuple #[.int .i64 s,.int .i64 0])) :
 CR 85 #[.string a] w (.int .i64 s):=by
 have HC:=hid hc;clear hc;go_enter func85,ntmps85
 go_wp2_with fail
 refine HC.o.mono ?_;rintro e w1 ⟨rfl,hb⟩;go_wp2;go_ret
 exact⟨rfl,hb⟩
theorem z2K (a:ByteArray)(r:ByteArray)(w:World)
 (hc:CR 197 #[.string a] w (.tuple #[.string r,.int .i64 0])) :
 CR 164 #[.string a] w (.string r):=by
 have HC:=hid hc;clear hc;go_enter func164,ntmps164
 go_wp2_with fail
 refine HC.o.mono ?_;rintro e w1 ⟨rfl,hb⟩;go_wp2;go_ret
 exact⟨rfl,hb⟩
theorem yZ (a:ByteArray)(b:ByteArray)(s:Int)(w:World)
 (hc:CR 158 #[.string a,.string b] w (.tuple #[.int .i64 s,.int .i64 0])) :
 CR 131 #[.string a,.string b] w (.int .i64 s):=by
 have HC:=hid hc;clear hc;go_enter func131,ntmps131
 go_wp2_with fail
 refine HC.o.mono ?_;rintro e w1 ⟨rfl,hb⟩;go_wp2;go_ret
 exact⟨rfl,hb⟩
theorem z0F (a:ByteArray)(b:ByteArray)(r:ByteArray)(w:World)
 (hc:CR 165 #[.string a,.string b] w (.tuple #[.string r,.int .i64 0])) :
 CR 137 #[.string a,.string b] w (.string r):=by
 have HC:=hid hc;clear hc;go_enter func137,ntmps137
 go_wp2_with fail
 refine HC.o.mono ?_;rintro e w1 ⟨rfl,hb⟩;go_wp2;go_ret
 exact⟨rfl,hb⟩
theorem yV (a:ByteArray)(b:ByteArray)(r:ByteArray)(w:World)
 (hc:CR 159 #[.string a,.string b] w (.tuple #[.string r,.int .i64 0])) :
 CR 132 #[.string a,.string b] w (.string r):=by
 have HC:=hid hc;clear hc;go_enter func132,ntmps132
 go_wp2_with fail
 refine HC.o.mono ?_;rintro e w1 ⟨rfl,hb⟩;go_wp2;go_ret
 exact⟨rfl,hb⟩
theorem z2I (a:ByteArray)(b:ByteArray)(r r2:ByteArray)(w:World)(hb1:(b.toList==[49])=false)
 (hc:CR 126 #[.string a,.string b] w (.tuple #[.string r,.string r2,.int .i64 0])) :
 CR 136 #[.string a,.string b] w (.string r):=by
 have HC:=hid hc;clear hc;go_enter func136,ntmps136
 go_wp2_with fail
 refine HC.o.mono ?_;rintro e w1 ⟨rfl,hb⟩;go_wp2;go_ret
 exact⟨rfl,hb⟩
theorem nW (x s:Int)(hs:x.sign=s)(hx:FitL x)(w:World)(hl:La w) :
 CR 85 #[.string (Sz x)] w (.int .i64 s):=by
 subst hs;exact z0E _ _ w (z6w x hx.z w hl)
theorem rneg (x y:Int)(h : -x=y)(hx:FitL x)(w:World)(hl:La w) :
 CR 164 #[.string (Sz x)] w (.string (Sz y)):=by
 subst h;exact z2K _ _ w (zNeg x hx.z w hl)
theorem z4r (x y c:Int)(hc:cmpZ x y=c)(hx:FitL x)(hy:FitL y)(w:World)(hl:La w) :
 CR 131 #[.string (Sz x),.string (Sz y)] w (.int .i64 c):=yZ _ _ _ w (z2r x y c hc hx.z hy.z w hl)
theorem z6F (x y z:Int)(hz:x+y=z)(hx:FitL x)(hy:FitL y)(fz:FitL z)(w:World)(hl:La w) :
 CR 137 #[.string (Sz x),.string (Sz y)] w (.string (Sz z)):=z0F _ _ _ w (zAdd x y z hz hx.z hy.z fz.z w hl)
theorem nV (x y z:Int)(hz:x*y=z)(hx:FitL x)(hy:FitL y)(fz:FitL z)(w:World)(hl:La w) :
 CR 132 #[.string (Sz x),.string (Sz y)] w (.string (Sz z)):=yV _ _ _ w (zMul x y z hz hx.z hy.z fz.z w hl)
theorem z2J (a:ByteArray)(w:World) :
 CR 136 #[.string a,.string ⟨#[49]⟩] w (.string a):=by
 go_enter func136,ntmps136
 go_wp2;go_ret
 exact⟨rfl,Below.refl _ _⟩
theorem rquo (x y q:Int)(hy:y≠0)(hq:x / y=q)(hx:FitL x)(fy:FitL y)(w:World)(hl:La w) :
 CR 136 #[.string (Sz x),.string (Sz y)] w (.string (Sz q)):=by
 by_cases h1:y=1
 · subst h1
   obtain rfl:x=q:=by rw[← hq,Int.ediv_one]
   rw[kW];exact z2J _ w
 · exact z2I _ _ _ _ w (jy h1) (z0b x y q _ hy hq rfl hx.z fy.z hx.succ w hl)
theorem z4E (z:Int):(⟨(Lib.trimPrefix (Sz z).data.toList [45]).toArray⟩:ByteArray)=Sn z.natAbs:=by
 rcases bT z with⟨n,hn,rfl⟩|rfl|⟨n,hn,rfl⟩
 · rw[jA hn,Int.natAbs_neg,Int.natAbs_natCast]
   simp[Lib.trimPrefix,Lib.hasPrefix,List.isPrefixOf,Sn]
 · decide +kernel
 · rw[dB,Int.natAbs_natCast,bQ]
   obtain⟨c,t,h,hc⟩:=jZ (n:=n)
   have hp:Lib.hasPrefix (Lib.decDigits n) [45]=false:=by
    rw[h];have:¬ 45=c:=fun h2=>hc h2.symm;simp[Lib.hasPrefix,List.isPrefixOf,this]
   unfold Lib.trimPrefix
   rw[hp];rfl
theorem uh (z:Int)(hz:FitL z)(w:World) :
 Calls Tryz.prog 148 #[.string (Sz z)] w fun e w'=>∃ v,e=.returned v∧Own .u64 95 w.heap.size w' v (ae z.natAbs)∧Below w.heap.size w w':=by
 have HP:=hid (show ∀ W,Calls Tryz.prog 182 #[.string (Sz z),.string ⟨#[45]⟩] W fun e w'=>e=.returned (.string (Sn z.natAbs))∧W=w' from fun W=>by
  refine(Tryz.strings_TrimPrefix _ _ W).mono ?_;rintro e w' ⟨rfl,hw⟩;refine⟨?_,by first|exact hw.symm|exact hw⟩
  rw[show(⟨#[45]⟩:ByteArray).data.toList=[45]from rfl,z4E])
 have HR:=hid (gT (Sn z.natAbs) (by rw[bQ];exact jq _) (by have:=(FitL.z hz).size;omega) w);rw[bR]at HR;generalize Sz z=a at *;generalize Sn z.natAbs=b at *;clear hz;go_enter func148,ntmps148
 go_wp2_with fail
 refine(HP.o _).mono ?_;rintro e w' ⟨rfl,rfl⟩;go_wp2_with fail
 refine HR.o.mono ?_;rintro e w1 ⟨v,rfl,ho,hb⟩;have HO:=hid ho;clear ho;go_wp2;go_ret
 exact⟨v,rfl,HO.o,hb⟩
theorem vP (a b c:ByteArray)(x y g:Nat)(h1:(a.toList==[49])=false)(h2:(b.toList==[49])=false)(w:World)(hl:La w)
 (ha:∀ W,Calls Tryz.prog 148 #[.string a] W fun e w'=>∃ v,e=.returned v∧Own .u64 95 W.heap.size w' v (ae x)∧Below W.heap.size W w')
 (hb:∀ W,Calls Tryz.prog 148 #[.string b] W fun e w'=>∃ v,e=.returned v∧Own .u64 95 W.heap.size w' v (ae y)∧Below W.heap.size W w')
 (hok:∀ (v1 v2:Value) (w:World),Rd .u64 w v1 (ae x)→Rd .u64 w v2 (ae y)→Calls Tryz.prog 147 #[v1,v2] w fun e w'=>∃ v,e=.returned v∧Own .u64 95 w.heap.size w' v (ae g)∧Below w.heap.size w w')
 (hw:∀ (v:Value) (w:World),Rd .u64 w v (ae g)→Tb w→CR 146 #[v] w (.string c)) :
 CR 119 #[.string a,.string b] w (.string c):=by
 obtain ⟨HA,HB,HK,HW,HT⟩:=bY ha hb hok hw hl.tb;clear ha hb hok hw hl;go_enter func119,ntmps119
 go_wp2_with fail
 refine(HA.o _).mono ?_;rintro e w1 ⟨v1,rfl,ho1,hb1⟩;have u6:=hid hb1;have HO1:=hid ho1;clear hb1 ho1;go_wp2_with fail
 refine(HB.o _).mono ?_;rintro e w2 ⟨v2,rfl,ho2,hb2⟩;have wu:=hbt u6 hb2;have hm:=hid (HK.o v1 v2 w2 (HO1.o.rd.below hb2) ho2.rd);clear hb2 ho2;go_wp2_with fail
 refine hm.o.mono ?_;rintro e w3 ⟨v3,rfl,ho3,hb3⟩;have wo:=hbt wu hb3;have hwr:=hid (HW.o v3 w3 ho3.rd (HT.o.on wo.o));clear hb3 ho3;go_wp2_with fail
 refine hwr.o.mono ?_;rintro e w4 ⟨rfl,hb4⟩;have ww:=hbt wo hb4;clear hb4;go_wp2;go_ret
 exact⟨rfl,ww.o⟩
theorem ul (b:ByteArray)(w:World) :
 CR 119 #[.string ⟨#[49]⟩,.string b] w (.string ⟨#[49]⟩):=by
 go_enter func119,ntmps119
 go_wp2;go_ret
 exact⟨rfl,Below.refl _ _⟩
theorem uk (a:ByteArray)(h1:(a.toList==[49])=false)(w:World) :
 CR 119 #[.string a,.string ⟨#[49]⟩] w (.string ⟨#[49]⟩):=by
 go_enter func119,ntmps119
 go_wp2;go_ret
 exact⟨rfl,Below.refl _ _⟩
theorem lK {z:Int}(h:FitL z):(ae z.natAbs).length≤70000:=Nat.le_trans (eF (show Sm 1900 z.natAbs from h) (by decide)) (by decide)
theorem jF (x y g:Int)(hg:((Nat.gcd x.natAbs y.natAbs:Nat):Int)=g)(hx:FitL x)(hy:FitL y)(w:World)(hl:La w) :
 CR 119 #[.string (Sz x),.string (Sz y)] w (.string (Sz g)):=by
 subst hg;by_cases h1:x=1
 · subst h1
   rw[show Nat.gcd (1:Int).natAbs y.natAbs=1 from Nat.gcd_one_left _,show((1:Nat):Int)=1 from rfl,kW];exact ul _ w
 · by_cases h2:y=1
   · subst h2
     rw[show Nat.gcd x.natAbs (1:Int).natAbs=1 from Nat.gcd_one_right _,show((1:Nat):Int)=1 from rfl,kW];exact uk _ (jy h1) w
   · have hlg:(ae (Nat.gcd x.natAbs y.natAbs)).length≤100000:=by
        rcases Nat.eq_zero_or_pos x.natAbs with h|h
        · rw[h,Nat.gcd_zero_left];exact Nat.le_trans (lK hy) (by decide)
        · exact Nat.le_trans (Nat.le_trans (aL (Nat.gcd_le_left _ h)) (lK hx)) (by decide)
     refine vP _ _ _ x.natAbs y.natAbs _ (jy h1) (jy h2) w hl (fun W=>uh x hx W) (fun W=>uh y hy W) (z07 _ _ (lK hx) (lK hy)) (fun v W hr ht=>?_);rw[dB];exact je v _ hlg W hr ht
set_option maxRecDepth 100000
set_option maxHeartbeats 20000000
open Go.Lib (hid)
theorem z1U (c:UInt8)(s:ByteArray)(hs:s.size≤100000)(w:World) :
 CR 113 #[.string s,.string ⟨#[c]⟩] w (.tuple #[.string ⟨(Lib.cut s.data.toList [c]).1.toArray⟩,.string ⟨(Lib.cut s.data.toList [c]).2.1.toArray⟩,.bool (Lib.cut s.data.toList [c]).2.2]):=by
 have hdl:(⟨#[c]⟩:ByteArray).data.toList=[c]:=rfl;have hsz:(⟨#[c]⟩:ByteArray).size=1:=rfl;rcases Lib.indexB_cases s ⟨#[c]⟩with hix|⟨i,hix,hroom⟩
 · have h3:=Lib.cutB_miss s ⟨#[c]⟩ hix
   rw[hdl]at h3;obtain⟨e1,e2,e3⟩:=h3;rw[e1,e2,e3];have hb:Lib.indexByte s.data.toList c = -1:=by rw[← Lib.index_one];exact hix
   have HI:=hid (fun W=>Tryz.stringslite_Index_one s c W);rw[hb]at HI;clear hix hb e1 e2 e3 hdl hsz;go_enter func113,ntmps113
   go_wp2_with fail
   refine(HI.o _).mono ?_;rintro e w' ⟨rfl,rfl⟩;go_wp2;go_ret3
   exact⟨rfl,Below.refl _ _⟩
 · have h3:=Lib.cutB_hit s ⟨#[c]⟩ i hix
   rw[hdl]at h3;obtain⟨e1,e2,e3⟩:=h3;rw[e1,e2,e3];have hb:Lib.indexByte s.data.toList c=i:=by rw[← Lib.index_one];exact hix
   have HI:=hid (fun W=>Tryz.stringslite_Index_one s c W);rw[hb]at HI;have c1:(0:Int) ≤ ↑i:=by omega
   have c2:(↑i:Int) ≤ ↑s.size:=by omega
   have c3:(0:Int) ≤ ↑i+1:=by omega
   have c4:(↑i+1:Int) ≤ ↑s.size:=by omega
   have c5:(↑s.size:Int)≤100000:=by omega
   have c6:IntKind.i64.wrap ((i:Int)+1)=(i:Int)+1:=IntWalk.i64_in _ (by omega);rw[hsz];clear hix hb e1 e2 e3 hdl hsz hroom;go_enter func113,ntmps113
   go_wp2_with fail
   refine(HI.o _).mono ?_;rintro e w' ⟨rfl,rfl⟩;go_wp2;go_region
   go_wp2;go_ret3
   exact⟨rfl,(Below.refl _ _).drew⟩
theorem cut1 (c:UInt8)(s:ByteArray)(hs:s.size≤100000)(w:World) :
 CR 83 #[.string s,.string ⟨#[c]⟩] w (.tuple #[.string ⟨(Lib.cut s.data.toList [c]).1.toArray⟩,.string ⟨(Lib.cut s.data.toList [c]).2.1.toArray⟩,.bool (Lib.cut s.data.toList [c]).2.2]):=by
 have HC:=hid (z1U c s hs w);clear hs;generalize (⟨(Lib.cut s.data.toList [c]).1.toArray⟩:ByteArray)=a at *;generalize (⟨(Lib.cut s.data.toList [c]).2.1.toArray⟩:ByteArray)=b at *;generalize (Lib.cut s.data.toList [c]).2.2=f at *;go_enter func83,ntmps83
 go_wp2_with fail
 refine HC.o.mono ?_;rintro e w1 ⟨rfl,hb⟩;go_wp2;go_ret3
 exact⟨rfl,hb⟩
theorem mr (a:ByteArray)(h:a.size≤18)(w:World) :
 Calls Tryz.prog 116 #[.string a] w fun e w'=>e=.returned (.bool true)∧w=w':=by
 have h1:(a.size:Int)≤18:=by omega
 clear h;go_enter func116,ntmps116
 go_wp2;go_ret
 exact⟨rfl,rfl⟩
theorem uo (a:ByteArray)(h:18<a.size)(w:World) :
 Calls Tryz.prog 116 #[.string a] w fun e w'=>e=.returned (.bool false)∧w=w':=by
 have h1:decide ((a.size:Int)≤18)=false:=by rw[decide_eq_false_iff_not];omega
 clear h;go_enter func116,ntmps116
 go_wp2;go_ret
 exact⟨by first|rfl|(rw[h1]),rfl⟩
theorem qw (z:Int)(hs:(Sz z).size≤18)(w:World) :
 CR 118 #[.string (Sz z)] w (.int .i64 z):=by
 have HP:=hid (z2T hs);have HM:=hid (show(Sz z).size≤9223372036854775806 by omega);generalize Sz z=s at *;clear hs;go_enter func118,ntmps118
 go_wp2_with fail
 refine(Tryz.strconv_ParseInt_10_at64_ok s HM.o _ HP.o _).mono ?_;rintro e w' ⟨rfl,hw⟩
 have hb:Below w.heap.size w w':=by
  rcases hw with rfl|⟨t,rfl⟩
  · exact Below.refl _ _
  · exact Lib.bytesWorld_below w _ t
 clear hw;go_wp2;go_ret
 exact⟨rfl,hb⟩
theorem z1m (a:Int):max a (-a)=(a.natAbs:Int):=by omega
theorem rgcd (a b:Int)(ha:a.natAbs<4611686018427387904)(hb:b.natAbs<4611686018427387904)(w:World) :
 CR 117 #[.int .i64 a,.int .i64 b] w (.int .i64 ((Nat.gcd a.natAbs b.natAbs:Nat):Int)):=by
 have m1:=z1m a;have m2:=z1m b;have w1:IntKind.i64.wrap (-a) = -a:=IntWalk.i64_in _ (by omega);have w2:IntKind.i64.wrap (-b) = -b:=IntWalk.i64_in _ (by omega);obtain⟨x,hx⟩:∃ x:Nat,a.natAbs=x:=⟨_,rfl⟩;obtain⟨y,hy⟩:∃ y:Nat,b.natAbs=y:=⟨_,rfl⟩;rw[hx]at m1;rw[hy]at m2;rw[hx,hy];have HX:=hid (show x<4611686018427387904 by omega);have HY:=hid (show y<4611686018427387904 by omega);obtain⟨g,hg⟩:∃ g:Nat,Nat.gcd x y=g:=⟨_,rfl⟩;rw[hg];have HG:=hid hg;clear hx hy hg ha hb;go_enter func117,ntmps117
 go_wp2;clear m1 m2 w1 w2;go_loopw [0,1] (fun u v W=>∃ p q:Nat,Hid (p<4611686018427387904∧q<4611686018427387904∧Nat.gcd p q=g)∧Below w.heap.size w W∧u=.int .i64 p∧v=.int .i64 q) (fun _ v _=>(intOf v).toNat)
 case atStart=>exact⟨x,y,hid ⟨HX.o,HY.o,HG.o⟩,Below.refl _ _,rfl,rfl⟩
 case round =>
  obtain⟨p,q,hr,hB,rfl,rfl⟩:=hrel;have HB:=hid hB;clear hB;by_cases hq:0<q
  · have hq1:(0:Int)<(q:Int):=by omega
    have hq2:¬ (q:Int)=0:=by omega
    have hp1:(p:Int)<4611686018427387904:=by have:=hr.o.1;omega
    have hp2:(0:Int)≤(p:Int):=by omega
    have hq3:(q:Int)<4611686018427387904:=by have:=hr.o.2.1;omega
    go_wp2;go_region
    all_goals
        go_wp2;go_roundw
        case rel=>exact⟨q,p%q,hid ⟨by omega,by have:=Nat.mod_lt p hq;omega,by rw[Nat.gcd_comm,← Nat.gcd_rec,Nat.gcd_comm];exact hr.o.2.2⟩,HB.o.drew,rfl,by go_num⟩
        case measure=>have:=Nat.mod_lt p hq;simp[intOf];omega
  · obtain rfl:q=0:=by omega
    have hg:=hr.o.2.2;rw[Nat.gcd_zero_right]at hg;subst hg;go_wp2;go_ret
    exact⟨rfl,HB.o⟩
end Go.Proofs.YtikihamjpenboaaGreatDoor
set_option maxRecDepth 100000
set_option maxHeartbeats 20000000
open Go.Lib (hid)
namespace Go.Proofs.YtikihamjpenboaaGreatDoor
open Go.RowKit Go.Gb
theorem mJ (a b:ByteArray)(x y g:Int)(r:Bool)(hr:(g==1)=r)(w:World)
 (h1:∀ W,Calls Tryz.prog 116 #[.string a] W fun e w'=>e=.returned (.bool true)∧W=w') (h2:∀ W,Calls Tryz.prog 116 #[.string b] W fun e w'=>e=.returned (.bool true)∧W=w')
 (h3:CQ 118 #[.string a] (.int .i64 x)) (h4:CQ 118 #[.string b] (.int .i64 y))
 (h5:CQ 117 #[.int .i64 x,.int .i64 y] (.int .i64 g)) :
 CR 86 #[.string a,.string b] w (.bool r):=by
 obtain ⟨C1,C2,C3,C4,C5,w9,HR⟩:=fK h1 h2 h3 h4 h5 (Below.refl w.heap.size w) hr;clear h1 h2 h3 h4 h5 hr;go_enter func86,ntmps86
 go_wp2_with fail
 refine(C1.o _).mono ?_;rintro e w' ⟨rfl,rfl⟩;go_wp2_with fail
 refine(C2.o _).mono ?_;rintro e w' ⟨rfl,rfl⟩;go_wp2_with fail
 refine(C3.o _).mono ?_;rintro e w1 ⟨rfl,hb⟩;have u6:=hbt w9 hb;clear hb;go_wp2_with fail
 refine(C4.o _).mono ?_;rintro e w2 ⟨rfl,hb⟩;have wu:=hbt u6 hb;clear hb;go_wp2_with fail
 refine(C5.o _).mono ?_;rintro e w3 ⟨rfl,hb⟩;have wo:=hbt wu hb;clear hb;go_wp2;go_ret
 exact⟨by rw[← HR.o];rfl,wo.o⟩
theorem mM (a b g:ByteArray)(r:Bool)(hr:(g.toList==[49])=r)(w:World)(hl:La w)
 (h1:∀ W,Calls Tryz.prog 116 #[.string a] W fun e w'=>e=.returned (.bool false)∧W=w')
 (h3:CL 119 #[.string a,.string b] (.string g)) :
 CR 86 #[.string a,.string b] w (.bool r):=by
 obtain ⟨C1,C3,w9,HL,HR⟩:=bY h1 h3 (Below.refl w.heap.size w) hl hr;clear h1 h3 hr hl;go_enter func86,ntmps86
 go_wp2_with fail
 refine(C1.o _).mono ?_;rintro e w' ⟨rfl,rfl⟩;go_wp2_with fail
 refine(C3.o _ (HL.o.on w9.o)).mono ?_;rintro e w1 ⟨rfl,hb⟩;have u6:=hbt w9 hb;clear hb;go_wp2;go_ret
 exact⟨by rw[← HR.o];rfl,u6.o⟩
theorem mK (a b g:ByteArray)(r:Bool)(hr:(g.toList==[49])=r)(w:World)(hl:La w)
 (h1:∀ W,Calls Tryz.prog 116 #[.string a] W fun e w'=>e=.returned (.bool true)∧W=w') (h2:∀ W,Calls Tryz.prog 116 #[.string b] W fun e w'=>e=.returned (.bool false)∧W=w')
 (h3:CL 119 #[.string a,.string b] (.string g)) :
 CR 86 #[.string a,.string b] w (.bool r):=by
 obtain ⟨C1,C2,C3,w9,HL,HR⟩:=cz h1 h2 h3 (Below.refl w.heap.size w) hl hr;clear h1 h2 h3 hr hl;go_enter func86,ntmps86
 go_wp2_with fail
 refine(C1.o _).mono ?_;rintro e w' ⟨rfl,rfl⟩;go_wp2_with fail
 refine(C2.o _).mono ?_;rintro e w' ⟨rfl,rfl⟩;go_wp2_with fail
 refine(C3.o _ (HL.o.on w9.o)).mono ?_;rintro e w1 ⟨rfl,hb⟩;have u6:=hbt w9 hb;clear hb;go_wp2;go_ret
 exact⟨by rw[← HR.o];rfl,u6.o⟩
theorem z0w {z:Int}(h:(Sz z).size≤18):z.natAbs<4611686018427387904:=by
 have h1:z.natAbs<10^18:=jD h;omega
theorem xW (x y:Int)(r:Bool)(hr:(Nat.gcd x.natAbs y.natAbs==1)=r)(hx:FitL x)(hy:FitL y)(w:World)(hl:La w) :
 CR 86 #[.string (Sz x),.string (Sz y)] w (.bool r):=by
 have hlong:((Sz ((Nat.gcd x.natAbs y.natAbs:Nat):Int)).toList==[49])=r:=by
  rw[← hr];by_cases h:Nat.gcd x.natAbs y.natAbs=1
  · rw[h,show((1:Nat):Int)=1 from rfl,kW,toList_data];rfl
  · rw[jy (by omega)];simpa using h
 by_cases h1:(Sz x).size≤18
 · by_cases h2:(Sz y).size≤18
   · refine mJ _ _ x y ((Nat.gcd x.natAbs y.natAbs:Nat):Int) r ?_ w (fun W=>mr _ h1 W) (fun W=>mr _ h2 W) (fun W=>qw x h1 W) (fun W=>qw y h2 W) (fun W=>rgcd x y (z0w h1) (z0w h2) W)
     rw[← hr,Bool.eq_iff_iff];simp
     omega
   · exact mK _ _ _ r hlong w hl (fun W=>mr _ h1 W) (fun W=>uo _ (by omega) W) (fun W hW=>jF x y _ rfl hx hy W hW)
 · exact mM _ _ _ r hlong w hl (fun W=>uo _ (by omega) W) (fun W hW=>jF x y _ rfl hx hy W hW)
theorem zL (a:ByteArray)(w:World) :
 CR 112 #[.agg #[.string a,.string ⟨#[49]⟩]] w (.string a):=by
 go_enter func112,ntmps112
 go_wp2;go_ret
 exact⟨rfl,(Below.refl _ _).alloc (Nat.le_refl _) _⟩
theorem wI (a b:ByteArray)(h1:(b.toList==[49])=false)(ha:a.size≤10000)(hb:b.size≤10000)(w:World) :
 CR 112 #[.agg #[.string a,.string b]] w (.string (a++⟨#[47]⟩++b)):=by
 have s1:(⟨#[47]⟩:ByteArray).size=1:=rfl;have s2:(a++⟨#[47]⟩:ByteArray).size=a.size+1:=by rw[ByteArray.size_append,s1]
 have e1:=run_string_add_sum (P:=Tryz.prog) (w.alloc (.cells #[.string a,.string b] 77)) a ⟨#[47]⟩ (by rw[s1];omega);have e2:=run_string_add_sum (P:=Tryz.prog) (w.alloc (.cells #[.string a,.string b] 77)) (a++⟨#[47]⟩) b (by rw[s2];omega);clear s1 s2 ha hb;go_enter func112,ntmps112
 go_wp2;go_ret
 exact⟨rfl,(Below.refl _ _).alloc (Nat.le_refl _) _⟩
theorem uL (q:Rat)(hn:FitL q.num)(hd:FitL (q.den:Int))(w:World) :
 CR 112 #[.agg #[.string (Sz q.num),.string (Sz (q.den:Int))]] w (.string (Sq q)):=by
 by_cases h:q.den=1
 · rw[h,jB h,show((1:Nat):Int)=1 from rfl,kW]
   exact zL _ w
 · have h2:=wI (Sz q.num) (Sz (q.den:Int)) (jy (by omega)) (by have:=kF hn (by decide);omega) (by have:=kF hd (by decide);omega) w
   have e:Sz q.num++⟨#[47]⟩++Sz (q.den:Int)=Sq q:=by
    rw[qZ h,dB];apply ByteArray.ext
    apply Array.ext'
    simp[Sn]
   rw[e]at h2;exact h2
theorem mY (a n d:ByteArray)(r:Bool)(w:World)(hl:La w)
 (h1:CQ 83 #[.string a,.string ⟨#[47]⟩] (.tuple #[.string n,.string d,.bool false]))
 (h2:CL 84 #[.string n] (.bool r)) :
 CR 44 #[.string a] w (.tuple #[.agg #[.string n,.string ⟨#[49]⟩],.bool r]):=by
 have C1:=hid h1;have C2:=hid h2;obtain⟨w0,hw0⟩:∃ w0:World,w0=(w.alloc (.cells #[.string ⟨#[]⟩,.string ⟨#[]⟩] 77)):=⟨_,rfl⟩;have hz0:w0.heap.size=w.heap.size+1:=by rw[hw0];simp
 have hB0:Below w.heap.size w w0:=by
  rw[hw0];repeat (first|exact Below.refl _ _|refine Below.setCell ?_ (by first|omega|(simp;omega)|simp) _|refine Below.alloc ?_ (by first|omega|(simp;omega)|simp) _|refine Below.drew ?_)
 have hS0:w0.cell? ⟨w.heap.size,0,none⟩=some (.string ⟨#[]⟩)∧w0.cell? ⟨w.heap.size,1,none⟩=some (.string ⟨#[]⟩):=by rw[hw0];exact⟨((aO).trans rfl),((aO).trans rfl)⟩
 have KS:=hid (show ∀ W:World,Below w0.heap.size w0 W→(W.cell? ⟨w.heap.size,0,none⟩=some (.string ⟨#[]⟩)∧W.cell? ⟨w.heap.size,1,none⟩=some (.string ⟨#[]⟩)) from fun W hB=>by
  obtain⟨c0,c1⟩:=hS0
  exact⟨(hB.cell (p:=⟨w.heap.size,0,none⟩) (by show w.heap.size<_;omega)).trans c0,(hB.cell (p:=⟨w.heap.size,1,none⟩) (by show w.heap.size<_;omega)).trans c1⟩)
 have KZ:=hid (show ∀ W:World,Below w0.heap.size w0 W→w.heap.size+1≤W.heap.size from fun W hB=>by have:=hB.size;omega);have KB:=hid (show ∀ W:World,Below w0.heap.size w0 W→Below w.heap.size w W from fun W hB=>hB0.trans (hB.mono (by omega)));have hR0:w0.cell? ⟨w.heap.size,0,none⟩=some (.string ⟨#[]⟩)∧w0.cell? ⟨w.heap.size,1,none⟩=some (.string ⟨#[]⟩)∧w0.frozen? ⟨w.heap.size,0,none⟩=false∧w0.frozen? ⟨w.heap.size,1,none⟩=false:=by rw[hw0];exact⟨((aO).trans rfl),((aO).trans rfl),(cB),(cB)⟩
 have KR:=hid (show ∀ W:World,Below w0.heap.size w0 W→(W.cell? ⟨w.heap.size,0,none⟩=some (.string ⟨#[]⟩)∧W.cell? ⟨w.heap.size,1,none⟩=some (.string ⟨#[]⟩)∧W.frozen? ⟨w.heap.size,0,none⟩=false∧W.frozen? ⟨w.heap.size,1,none⟩=false) from fun W hB=>by
  obtain⟨c0,c1,f0,f1⟩:=hR0
  exact⟨(hB.cell (p:=⟨w.heap.size,0,none⟩) (by show w.heap.size<_;omega)).trans c0,(hB.cell (p:=⟨w.heap.size,1,none⟩) (by show w.heap.size<_;omega)).trans c1,(hB.frozen (p:=⟨w.heap.size,0,none⟩) (by show w.heap.size<_;omega)).trans f0,(hB.frozen (p:=⟨w.heap.size,1,none⟩) (by show w.heap.size<_;omega)).trans f1⟩)
 clear hR0;have F0:=hid (Below.refl w0.heap.size w0);have HW0:=hid hw0;clear hz0 hB0 hS0 hw0;have HL:=hid (show ∀ W:World,Below w0.heap.size w0 W→La W from fun W hB=>hl.on (KB.o W hB));clear hl h1 h2;go_enter func44,ntmps44
 go_wp2_with fail
 rw[← HW0.o];obtain⟨d0,d1⟩:=KS.o _ F0.o;go_wp2_with fail
 refine(C1.o _).mono ?_;rintro e w1 ⟨rfl,hb⟩;have F1:=hid (aj F0.o hb);clear hb d0 d1;obtain⟨d0,d1⟩:=KS.o _ F1.o;go_wp2_with fail
 refine(C2.o _ (HL.o _ F1.o)).mono ?_;rintro e w2 ⟨rfl,hb⟩;have F2:=hid (aj F1.o hb);clear hb d0 d1;obtain⟨d0,d1⟩:=KS.o _ F2.o
 all_goals
  obtain⟨m0,m1,n0,n1⟩:=KR.o _ F2.o;have hz:=KZ.o _ F2.o;go_wp2;refine bodyPost_ret (v:=.tuple #[.agg #[.string n,.string ⟨#[49]⟩],.bool r]) (by simp[results,results44,go_sem,m0,m1]) rfl ⟨rfl,?_⟩;repeat (first|exact KB.o _ F2.o|refine Below.setCell ?_ (by first|omega|(simp;omega)|simp) _|refine Below.alloc ?_ (by first|omega|(simp;omega)|simp) _|refine Below.drew ?_)
theorem lh (a n d:ByteArray)(s:Int)(r:Bool)(hd1:(d.toList==[49])=false)(hs:1≤s)(w:World)(hl:La w)
 (h1:CQ 83 #[.string a,.string ⟨#[47]⟩] (.tuple #[.string n,.string d,.bool true]))
 (h2:CL 84 #[.string n] (.bool true))
 (h3:CL 84 #[.string d] (.bool true))
 (h4:CL 85 #[.string d] (.int .i64 s))
 (h5:CL 86 #[.string n,.string d] (.bool r)) :
 CR 44 #[.string a] w (.tuple #[.agg #[.string n,.string d],.bool r]):=by
 obtain ⟨C1,C2,C3,C4,C5⟩:=bY h1 h2 h3 h4 h5;obtain⟨w0,hw0⟩:∃ w0:World,w0=(w.alloc (.cells #[.string ⟨#[]⟩,.string ⟨#[]⟩] 77)):=⟨_,rfl⟩;have hz0:w0.heap.size=w.heap.size+1:=by rw[hw0];simp
 have hB0:Below w.heap.size w w0:=by
  rw[hw0];repeat (first|exact Below.refl _ _|refine Below.setCell ?_ (by first|omega|(simp;omega)|simp) _|refine Below.alloc ?_ (by first|omega|(simp;omega)|simp) _|refine Below.drew ?_)
 have hS0:w0.cell? ⟨w.heap.size,0,none⟩=some (.string ⟨#[]⟩)∧w0.cell? ⟨w.heap.size,1,none⟩=some (.string ⟨#[]⟩):=by rw[hw0];exact⟨((aO).trans rfl),((aO).trans rfl)⟩
 have KS:=hid (show ∀ W:World,Below w0.heap.size w0 W→(W.cell? ⟨w.heap.size,0,none⟩=some (.string ⟨#[]⟩)∧W.cell? ⟨w.heap.size,1,none⟩=some (.string ⟨#[]⟩)) from fun W hB=>by
  obtain⟨c0,c1⟩:=hS0
  exact⟨(hB.cell (p:=⟨w.heap.size,0,none⟩) (by show w.heap.size<_;omega)).trans c0,(hB.cell (p:=⟨w.heap.size,1,none⟩) (by show w.heap.size<_;omega)).trans c1⟩)
 have KZ:=hid (show ∀ W:World,Below w0.heap.size w0 W→w.heap.size+1≤W.heap.size from fun W hB=>by have:=hB.size;omega);have KB:=hid (show ∀ W:World,Below w0.heap.size w0 W→Below w.heap.size w W from fun W hB=>hB0.trans (hB.mono (by omega)));have hR0:w0.cell? ⟨w.heap.size,0,none⟩=some (.string ⟨#[]⟩)∧w0.cell? ⟨w.heap.size,1,none⟩=some (.string ⟨#[]⟩)∧w0.frozen? ⟨w.heap.size,0,none⟩=false∧w0.frozen? ⟨w.heap.size,1,none⟩=false:=by rw[hw0];exact⟨((aO).trans rfl),((aO).trans rfl),(cB),(cB)⟩
 have KR:=hid (show ∀ W:World,Below w0.heap.size w0 W→(W.cell? ⟨w.heap.size,0,none⟩=some (.string ⟨#[]⟩)∧W.cell? ⟨w.heap.size,1,none⟩=some (.string ⟨#[]⟩)∧W.frozen? ⟨w.heap.size,0,none⟩=false∧W.frozen? ⟨w.heap.size,1,none⟩=false) from fun W hB=>by
  obtain⟨c0,c1,f0,f1⟩:=hR0
  exact⟨(hB.cell (p:=⟨w.heap.size,0,none⟩) (by show w.heap.size<_;omega)).trans c0,(hB.cell (p:=⟨w.heap.size,1,none⟩) (by show w.heap.size<_;omega)).trans c1,(hB.frozen (p:=⟨w.heap.size,0,none⟩) (by show w.heap.size<_;omega)).trans f0,(hB.frozen (p:=⟨w.heap.size,1,none⟩) (by show w.heap.size<_;omega)).trans f1⟩)
 clear hR0;have F0:=hid (Below.refl w0.heap.size w0);have HW0:=hid hw0;clear hz0 hB0 hS0 hw0;have HL:=hid (show ∀ W:World,Below w0.heap.size w0 W→La W from fun W hB=>hl.on (KB.o W hB));clear hl h1 h2 h3 h4 h5;go_enter func44,ntmps44
 have hs1:decide (s<1)=false:=by rw[decide_eq_false_iff_not];omega
 clear hs;go_wp2_with fail
 rw[← HW0.o];obtain⟨d0,d1⟩:=KS.o _ F0.o;go_wp2_with fail
 refine(C1.o _).mono ?_;rintro e w1 ⟨rfl,hb⟩;have F1:=hid (aj F0.o hb);clear hb d0 d1;obtain⟨d0,d1⟩:=KS.o _ F1.o;go_wp2_with fail
 refine(C2.o _ (HL.o _ F1.o)).mono ?_;rintro e w2 ⟨rfl,hb⟩;have F2:=hid (aj F1.o hb);clear hb d0 d1;obtain⟨d0,d1⟩:=KS.o _ F2.o;go_wp2_with fail
 refine(C3.o _ (HL.o _ F2.o)).mono ?_;rintro e w3 ⟨rfl,hb⟩;have F3:=hid (aj F2.o hb);clear hb d0 d1;obtain⟨d0,d1⟩:=KS.o _ F3.o;go_wp2_with fail
 refine(C4.o _ (HL.o _ F3.o)).mono ?_;rintro e w4 ⟨rfl,hb⟩;have F4:=hid (aj F3.o hb);clear hb d0 d1;obtain⟨d0,d1⟩:=KS.o _ F4.o;go_wp2_with fail
 refine(C5.o _ (HL.o _ F4.o)).mono ?_;rintro e w5 ⟨rfl,hb⟩;have F5:=hid (aj F4.o hb);clear hb d0 d1;obtain⟨d0,d1⟩:=KS.o _ F5.o
 all_goals
  obtain⟨m0,m1,n0,n1⟩:=KR.o _ F5.o;have hz:=KZ.o _ F5.o;go_wp2;refine bodyPost_ret (v:=.tuple #[.agg #[.string n,.string d],.bool r]) (by simp[results,results44,go_sem,m0,m1]) rfl ⟨rfl,?_⟩;repeat (first|exact KB.o _ F5.o|refine Below.setCell ?_ (by first|omega|(simp;omega)|simp) _|refine Below.alloc ?_ (by first|omega|(simp;omega)|simp) _|refine Below.drew ?_)
theorem rO (a n d:ByteArray)(w:World)(hl:La w)
 (h1:CQ 83 #[.string a,.string ⟨#[47]⟩] (.tuple #[.string n,.string d,.bool true]))
 (h2:CL 84 #[.string n] (.bool false)) :
 CR 44 #[.string a] w (.tuple #[.agg #[.string ⟨#[]⟩,.string ⟨#[]⟩],.bool false]):=by
 have C1:=hid h1;have C2:=hid h2;obtain⟨w0,hw0⟩:∃ w0:World,w0=(w.alloc (.cells #[.string ⟨#[]⟩,.string ⟨#[]⟩] 77)):=⟨_,rfl⟩;have hz0:w0.heap.size=w.heap.size+1:=by rw[hw0];simp
 have hB0:Below w.heap.size w w0:=by
  rw[hw0];repeat (first|exact Below.refl _ _|refine Below.setCell ?_ (by first|omega|(simp;omega)|simp) _|refine Below.alloc ?_ (by first|omega|(simp;omega)|simp) _|refine Below.drew ?_)
 have hS0:w0.cell? ⟨w.heap.size,0,none⟩=some (.string ⟨#[]⟩)∧w0.cell? ⟨w.heap.size,1,none⟩=some (.string ⟨#[]⟩):=by rw[hw0];exact⟨((aO).trans rfl),((aO).trans rfl)⟩
 have KS:=hid (show ∀ W:World,Below w0.heap.size w0 W→(W.cell? ⟨w.heap.size,0,none⟩=some (.string ⟨#[]⟩)∧W.cell? ⟨w.heap.size,1,none⟩=some (.string ⟨#[]⟩)) from fun W hB=>by
  obtain⟨c0,c1⟩:=hS0
  exact⟨(hB.cell (p:=⟨w.heap.size,0,none⟩) (by show w.heap.size<_;omega)).trans c0,(hB.cell (p:=⟨w.heap.size,1,none⟩) (by show w.heap.size<_;omega)).trans c1⟩)
 have KZ:=hid (show ∀ W:World,Below w0.heap.size w0 W→w.heap.size+1≤W.heap.size from fun W hB=>by have:=hB.size;omega);have KB:=hid (show ∀ W:World,Below w0.heap.size w0 W→Below w.heap.size w W from fun W hB=>hB0.trans (hB.mono (by omega)));have hR0:w0.cell? ⟨w.heap.size,0,none⟩=some (.string ⟨#[]⟩)∧w0.cell? ⟨w.heap.size,1,none⟩=some (.string ⟨#[]⟩)∧w0.frozen? ⟨w.heap.size,0,none⟩=false∧w0.frozen? ⟨w.heap.size,1,none⟩=false:=by rw[hw0];exact⟨((aO).trans rfl),((aO).trans rfl),(cB),(cB)⟩
 have KR:=hid (show ∀ W:World,Below w0.heap.size w0 W→(W.cell? ⟨w.heap.size,0,none⟩=some (.string ⟨#[]⟩)∧W.cell? ⟨w.heap.size,1,none⟩=some (.string ⟨#[]⟩)∧W.frozen? ⟨w.heap.size,0,none⟩=false∧W.frozen? ⟨w.heap.size,1,none⟩=false) from fun W hB=>by
  obtain⟨c0,c1,f0,f1⟩:=hR0
  exact⟨(hB.cell (p:=⟨w.heap.size,0,none⟩) (by show w.heap.size<_;omega)).trans c0,(hB.cell (p:=⟨w.heap.size,1,none⟩) (by show w.heap.size<_;omega)).trans c1,(hB.frozen (p:=⟨w.heap.size,0,none⟩) (by show w.heap.size<_;omega)).trans f0,(hB.frozen (p:=⟨w.heap.size,1,none⟩) (by show w.heap.size<_;omega)).trans f1⟩)
 clear hR0;have F0:=hid (Below.refl w0.heap.size w0);have HW0:=hid hw0;clear hz0 hB0 hS0 hw0;have HL:=hid (show ∀ W:World,Below w0.heap.size w0 W→La W from fun W hB=>hl.on (KB.o W hB));clear hl h1 h2;go_enter func44,ntmps44
 go_wp2_with fail
 rw[← HW0.o];obtain⟨d0,d1⟩:=KS.o _ F0.o;go_wp2_with fail
 refine(C1.o _).mono ?_;rintro e w1 ⟨rfl,hb⟩;have F1:=hid (aj F0.o hb);clear hb d0 d1;obtain⟨d0,d1⟩:=KS.o _ F1.o;go_wp2_with fail
 refine(C2.o _ (HL.o _ F1.o)).mono ?_;rintro e w2 ⟨rfl,hb⟩;have F2:=hid (aj F1.o hb);clear hb d0 d1;obtain⟨d0,d1⟩:=KS.o _ F2.o
 all_goals
  obtain⟨m0,m1,n0,n1⟩:=KR.o _ F2.o;have hz:=KZ.o _ F2.o;go_wp2;refine bodyPost_ret (v:=.tuple #[.agg #[.string ⟨#[]⟩,.string ⟨#[]⟩],.bool false]) (by simp[results,results44,go_sem,m0,m1]) rfl ⟨rfl,?_⟩;repeat (first|exact KB.o _ F2.o|refine Below.setCell ?_ (by first|omega|(simp;omega)|simp) _|refine Below.alloc ?_ (by first|omega|(simp;omega)|simp) _|refine Below.drew ?_)
theorem rJ (a n d:ByteArray)(w:World)(hl:La w)
 (h1:CQ 83 #[.string a,.string ⟨#[47]⟩] (.tuple #[.string n,.string d,.bool true]))
 (h2:CL 84 #[.string n] (.bool true))
 (h3:CL 84 #[.string d] (.bool false)) :
 CR 44 #[.string a] w (.tuple #[.agg #[.string ⟨#[]⟩,.string ⟨#[]⟩],.bool false]):=by
 obtain ⟨C1,C2,C3⟩:=ak h1 h2 h3;obtain⟨w0,hw0⟩:∃ w0:World,w0=(w.alloc (.cells #[.string ⟨#[]⟩,.string ⟨#[]⟩] 77)):=⟨_,rfl⟩;have hz0:w0.heap.size=w.heap.size+1:=by rw[hw0];simp
 have hB0:Below w.heap.size w w0:=by
  rw[hw0];repeat (first|exact Below.refl _ _|refine Below.setCell ?_ (by first|omega|(simp;omega)|simp) _|refine Below.alloc ?_ (by first|omega|(simp;omega)|simp) _|refine Below.drew ?_)
 have hS0:w0.cell? ⟨w.heap.size,0,none⟩=some (.string ⟨#[]⟩)∧w0.cell? ⟨w.heap.size,1,none⟩=some (.string ⟨#[]⟩):=by rw[hw0];exact⟨((aO).trans rfl),((aO).trans rfl)⟩
 have KS:=hid (show ∀ W:World,Below w0.heap.size w0 W→(W.cell? ⟨w.heap.size,0,none⟩=some (.string ⟨#[]⟩)∧W.cell? ⟨w.heap.size,1,none⟩=some (.string ⟨#[]⟩)) from fun W hB=>by
  obtain⟨c0,c1⟩:=hS0
  exact⟨(hB.cell (p:=⟨w.heap.size,0,none⟩) (by show w.heap.size<_;omega)).trans c0,(hB.cell (p:=⟨w.heap.size,1,none⟩) (by show w.heap.size<_;omega)).trans c1⟩)
 have KZ:=hid (show ∀ W:World,Below w0.heap.size w0 W→w.heap.size+1≤W.heap.size from fun W hB=>by have:=hB.size;omega);have KB:=hid (show ∀ W:World,Below w0.heap.size w0 W→Below w.heap.size w W from fun W hB=>hB0.trans (hB.mono (by omega)));have hR0:w0.cell? ⟨w.heap.size,0,none⟩=some (.string ⟨#[]⟩)∧w0.cell? ⟨w.heap.size,1,none⟩=some (.string ⟨#[]⟩)∧w0.frozen? ⟨w.heap.size,0,none⟩=false∧w0.frozen? ⟨w.heap.size,1,none⟩=false:=by rw[hw0];exact⟨((aO).trans rfl),((aO).trans rfl),(cB),(cB)⟩
 have KR:=hid (show ∀ W:World,Below w0.heap.size w0 W→(W.cell? ⟨w.heap.size,0,none⟩=some (.string ⟨#[]⟩)∧W.cell? ⟨w.heap.size,1,none⟩=some (.string ⟨#[]⟩)∧W.frozen? ⟨w.heap.size,0,none⟩=false∧W.frozen? ⟨w.heap.size,1,none⟩=false) from fun W hB=>by
  obtain⟨c0,c1,f0,f1⟩:=hR0
  exact⟨(hB.cell (p:=⟨w.heap.size,0,none⟩) (by show w.heap.size<_;omega)).trans c0,(hB.cell (p:=⟨w.heap.size,1,none⟩) (by show w.heap.size<_;omega)).trans c1,(hB.frozen (p:=⟨w.heap.size,0,none⟩) (by show w.heap.size<_;omega)).trans f0,(hB.frozen (p:=⟨w.heap.size,1,none⟩) (by show w.heap.size<_;omega)).trans f1⟩)
 clear hR0;have F0:=hid (Below.refl w0.heap.size w0);have HW0:=hid hw0;clear hz0 hB0 hS0 hw0;have HL:=hid (show ∀ W:World,Below w0.heap.size w0 W→La W from fun W hB=>hl.on (KB.o W hB));clear hl h1 h2 h3;go_enter func44,ntmps44
 go_wp2_with fail
 rw[← HW0.o];obtain⟨d0,d1⟩:=KS.o _ F0.o;go_wp2_with fail
 refine(C1.o _).mono ?_;rintro e w1 ⟨rfl,hb⟩;have F1:=hid (aj F0.o hb);clear hb d0 d1;obtain⟨d0,d1⟩:=KS.o _ F1.o;go_wp2_with fail
 refine(C2.o _ (HL.o _ F1.o)).mono ?_;rintro e w2 ⟨rfl,hb⟩;have F2:=hid (aj F1.o hb);clear hb d0 d1;obtain⟨d0,d1⟩:=KS.o _ F2.o;go_wp2_with fail
 refine(C3.o _ (HL.o _ F2.o)).mono ?_;rintro e w3 ⟨rfl,hb⟩;have F3:=hid (aj F2.o hb);clear hb d0 d1;obtain⟨d0,d1⟩:=KS.o _ F3.o
 all_goals
  obtain⟨m0,m1,n0,n1⟩:=KR.o _ F3.o;have hz:=KZ.o _ F3.o;go_wp2;refine bodyPost_ret (v:=.tuple #[.agg #[.string ⟨#[]⟩,.string ⟨#[]⟩],.bool false]) (by simp[results,results44,go_sem,m0,m1]) rfl ⟨rfl,?_⟩;repeat (first|exact KB.o _ F3.o|refine Below.setCell ?_ (by first|omega|(simp;omega)|simp) _|refine Below.alloc ?_ (by first|omega|(simp;omega)|simp) _|refine Below.drew ?_)
theorem rH (a n:ByteArray)(w:World)(hl:La w)
 (h1:CQ 83 #[.string a,.string ⟨#[47]⟩] (.tuple #[.string n,.string ⟨#[49]⟩,.bool true]))
 (h2:CL 84 #[.string n] (.bool true))
 (h3:CL 84 #[.string ⟨#[49]⟩] (.bool true)) :
 CR 44 #[.string a] w (.tuple #[.agg #[.string ⟨#[]⟩,.string ⟨#[]⟩],.bool false]):=by
 obtain ⟨C1,C2,C3⟩:=ak h1 h2 h3;obtain⟨w0,hw0⟩:∃ w0:World,w0=(w.alloc (.cells #[.string ⟨#[]⟩,.string ⟨#[]⟩] 77)):=⟨_,rfl⟩;have hz0:w0.heap.size=w.heap.size+1:=by rw[hw0];simp
 have hB0:Below w.heap.size w w0:=by
  rw[hw0];repeat (first|exact Below.refl _ _|refine Below.setCell ?_ (by first|omega|(simp;omega)|simp) _|refine Below.alloc ?_ (by first|omega|(simp;omega)|simp) _|refine Below.drew ?_)
 have hS0:w0.cell? ⟨w.heap.size,0,none⟩=some (.string ⟨#[]⟩)∧w0.cell? ⟨w.heap.size,1,none⟩=some (.string ⟨#[]⟩):=by rw[hw0];exact⟨((aO).trans rfl),((aO).trans rfl)⟩
 have KS:=hid (show ∀ W:World,Below w0.heap.size w0 W→(W.cell? ⟨w.heap.size,0,none⟩=some (.string ⟨#[]⟩)∧W.cell? ⟨w.heap.size,1,none⟩=some (.string ⟨#[]⟩)) from fun W hB=>by
  obtain⟨c0,c1⟩:=hS0
  exact⟨(hB.cell (p:=⟨w.heap.size,0,none⟩) (by show w.heap.size<_;omega)).trans c0,(hB.cell (p:=⟨w.heap.size,1,none⟩) (by show w.heap.size<_;omega)).trans c1⟩)
 have KZ:=hid (show ∀ W:World,Below w0.heap.size w0 W→w.heap.size+1≤W.heap.size from fun W hB=>by have:=hB.size;omega);have KB:=hid (show ∀ W:World,Below w0.heap.size w0 W→Below w.heap.size w W from fun W hB=>hB0.trans (hB.mono (by omega)));have hR0:w0.cell? ⟨w.heap.size,0,none⟩=some (.string ⟨#[]⟩)∧w0.cell? ⟨w.heap.size,1,none⟩=some (.string ⟨#[]⟩)∧w0.frozen? ⟨w.heap.size,0,none⟩=false∧w0.frozen? ⟨w.heap.size,1,none⟩=false:=by rw[hw0];exact⟨((aO).trans rfl),((aO).trans rfl),(cB),(cB)⟩
 have KR:=hid (show ∀ W:World,Below w0.heap.size w0 W→(W.cell? ⟨w.heap.size,0,none⟩=some (.string ⟨#[]⟩)∧W.cell? ⟨w.heap.size,1,none⟩=some (.string ⟨#[]⟩)∧W.frozen? ⟨w.heap.size,0,none⟩=false∧W.frozen? ⟨w.heap.size,1,none⟩=false) from fun W hB=>by
  obtain⟨c0,c1,f0,f1⟩:=hR0
  exact⟨(hB.cell (p:=⟨w.heap.size,0,none⟩) (by show w.heap.size<_;omega)).trans c0,(hB.cell (p:=⟨w.heap.size,1,none⟩) (by show w.heap.size<_;omega)).trans c1,(hB.frozen (p:=⟨w.heap.size,0,none⟩) (by show w.heap.size<_;omega)).trans f0,(hB.frozen (p:=⟨w.heap.size,1,none⟩) (by show w.heap.size<_;omega)).trans f1⟩)
 clear hR0;have F0:=hid (Below.refl w0.heap.size w0);have HW0:=hid hw0;clear hz0 hB0 hS0 hw0;have HL:=hid (show ∀ W:World,Below w0.heap.size w0 W→La W from fun W hB=>hl.on (KB.o W hB));clear hl h1 h2 h3;go_enter func44,ntmps44
 go_wp2_with fail
 rw[← HW0.o];obtain⟨d0,d1⟩:=KS.o _ F0.o;go_wp2_with fail
 refine(C1.o _).mono ?_;rintro e w1 ⟨rfl,hb⟩;have F1:=hid (aj F0.o hb);clear hb d0 d1;obtain⟨d0,d1⟩:=KS.o _ F1.o;go_wp2_with fail
 refine(C2.o _ (HL.o _ F1.o)).mono ?_;rintro e w2 ⟨rfl,hb⟩;have F2:=hid (aj F1.o hb);clear hb d0 d1;obtain⟨d0,d1⟩:=KS.o _ F2.o;go_wp2_with fail
 refine(C3.o _ (HL.o _ F2.o)).mono ?_;rintro e w3 ⟨rfl,hb⟩;have F3:=hid (aj F2.o hb);clear hb d0 d1;obtain⟨d0,d1⟩:=KS.o _ F3.o
 all_goals
  obtain⟨m0,m1,n0,n1⟩:=KR.o _ F3.o;have hz:=KZ.o _ F3.o;go_wp2;refine bodyPost_ret (v:=.tuple #[.agg #[.string ⟨#[]⟩,.string ⟨#[]⟩],.bool false]) (by simp[results,results44,go_sem,m0,m1]) rfl ⟨rfl,?_⟩;repeat (first|exact KB.o _ F3.o|refine Below.setCell ?_ (by first|omega|(simp;omega)|simp) _|refine Below.alloc ?_ (by first|omega|(simp;omega)|simp) _|refine Below.drew ?_)
theorem rG (a n d:ByteArray)(s:Int)(hd1:(d.toList==[49])=false)(hs:s<1)(w:World)(hl:La w)
 (h1:CQ 83 #[.string a,.string ⟨#[47]⟩] (.tuple #[.string n,.string d,.bool true]))
 (h2:CL 84 #[.string n] (.bool true))
 (h3:CL 84 #[.string d] (.bool true))
 (h4:CL 85 #[.string d] (.int .i64 s)) :
 CR 44 #[.string a] w (.tuple #[.agg #[.string ⟨#[]⟩,.string ⟨#[]⟩],.bool false]):=by
 obtain ⟨C1,C2,C3,C4⟩:=aM h1 h2 h3 h4;obtain⟨w0,hw0⟩:∃ w0:World,w0=(w.alloc (.cells #[.string ⟨#[]⟩,.string ⟨#[]⟩] 77)):=⟨_,rfl⟩;have hz0:w0.heap.size=w.heap.size+1:=by rw[hw0];simp
 have hB0:Below w.heap.size w w0:=by
  rw[hw0];repeat (first|exact Below.refl _ _|refine Below.setCell ?_ (by first|omega|(simp;omega)|simp) _|refine Below.alloc ?_ (by first|omega|(simp;omega)|simp) _|refine Below.drew ?_)
 have hS0:w0.cell? ⟨w.heap.size,0,none⟩=some (.string ⟨#[]⟩)∧w0.cell? ⟨w.heap.size,1,none⟩=some (.string ⟨#[]⟩):=by rw[hw0];exact⟨((aO).trans rfl),((aO).trans rfl)⟩
 have KS:=hid (show ∀ W:World,Below w0.heap.size w0 W→(W.cell? ⟨w.heap.size,0,none⟩=some (.string ⟨#[]⟩)∧W.cell? ⟨w.heap.size,1,none⟩=some (.string ⟨#[]⟩)) from fun W hB=>by
  obtain⟨c0,c1⟩:=hS0
  exact⟨(hB.cell (p:=⟨w.heap.size,0,none⟩) (by show w.heap.size<_;omega)).trans c0,(hB.cell (p:=⟨w.heap.size,1,none⟩) (by show w.heap.size<_;omega)).trans c1⟩)
 have KZ:=hid (show ∀ W:World,Below w0.heap.size w0 W→w.heap.size+1≤W.heap.size from fun W hB=>by have:=hB.size;omega);have KB:=hid (show ∀ W:World,Below w0.heap.size w0 W→Below w.heap.size w W from fun W hB=>hB0.trans (hB.mono (by omega)));have hR0:w0.cell? ⟨w.heap.size,0,none⟩=some (.string ⟨#[]⟩)∧w0.cell? ⟨w.heap.size,1,none⟩=some (.string ⟨#[]⟩)∧w0.frozen? ⟨w.heap.size,0,none⟩=false∧w0.frozen? ⟨w.heap.size,1,none⟩=false:=by rw[hw0];exact⟨((aO).trans rfl),((aO).trans rfl),(cB),(cB)⟩
 have KR:=hid (show ∀ W:World,Below w0.heap.size w0 W→(W.cell? ⟨w.heap.size,0,none⟩=some (.string ⟨#[]⟩)∧W.cell? ⟨w.heap.size,1,none⟩=some (.string ⟨#[]⟩)∧W.frozen? ⟨w.heap.size,0,none⟩=false∧W.frozen? ⟨w.heap.size,1,none⟩=false) from fun W hB=>by
  obtain⟨c0,c1,f0,f1⟩:=hR0
  exact⟨(hB.cell (p:=⟨w.heap.size,0,none⟩) (by show w.heap.size<_;omega)).trans c0,(hB.cell (p:=⟨w.heap.size,1,none⟩) (by show w.heap.size<_;omega)).trans c1,(hB.frozen (p:=⟨w.heap.size,0,none⟩) (by show w.heap.size<_;omega)).trans f0,(hB.frozen (p:=⟨w.heap.size,1,none⟩) (by show w.heap.size<_;omega)).trans f1⟩)
 clear hR0;have F0:=hid (Below.refl w0.heap.size w0);have HW0:=hid hw0;clear hz0 hB0 hS0 hw0;have HL:=hid (show ∀ W:World,Below w0.heap.size w0 W→La W from fun W hB=>hl.on (KB.o W hB));clear hl h1 h2 h3 h4;go_enter func44,ntmps44
 go_wp2_with fail
 rw[← HW0.o];obtain⟨d0,d1⟩:=KS.o _ F0.o;go_wp2_with fail
 refine(C1.o _).mono ?_;rintro e w1 ⟨rfl,hb⟩;have F1:=hid (aj F0.o hb);clear hb d0 d1;obtain⟨d0,d1⟩:=KS.o _ F1.o;go_wp2_with fail
 refine(C2.o _ (HL.o _ F1.o)).mono ?_;rintro e w2 ⟨rfl,hb⟩;have F2:=hid (aj F1.o hb);clear hb d0 d1;obtain⟨d0,d1⟩:=KS.o _ F2.o;go_wp2_with fail
 refine(C3.o _ (HL.o _ F2.o)).mono ?_;rintro e w3 ⟨rfl,hb⟩;have F3:=hid (aj F2.o hb);clear hb d0 d1;obtain⟨d0,d1⟩:=KS.o _ F3.o;go_wp2_with fail
 refine(C4.o _ (HL.o _ F3.o)).mono ?_;rintro e w4 ⟨rfl,hb⟩;have F4:=hid (aj F3.o hb);clear hb d0 d1;obtain⟨d0,d1⟩:=KS.o _ F4.o
 all_goals
  obtain⟨m0,m1,n0,n1⟩:=KR.o _ F4.o;have hz:=KZ.o _ F4.o;go_wp2;refine bodyPost_ret (v:=.tuple #[.agg #[.string ⟨#[]⟩,.string ⟨#[]⟩],.bool false]) (by simp[results,results44,go_sem,m0,m1]) rfl ⟨rfl,?_⟩;repeat (first|exact KB.o _ F4.o|refine Below.setCell ?_ (by first|omega|(simp;omega)|simp) _|refine Below.alloc ?_ (by first|omega|(simp;omega)|simp) _|refine Below.drew ?_)
def Fv (q:Rat):Value:=.agg #[.string (Sz q.num),.string (Sz (q.den:Int))]
theorem FitQ.numL {q:Rat}(h:FitQ q):FitL q.num:=h.1.mono (by decide)
theorem FitQ.denL {q:Rat}(h:FitQ q):FitL (q.den:Int):=FitL.nat (h.2.mono (by decide))
theorem z3K (s:ByteArray)(hs:s.size≤100000)(n d:List UInt8)(f:Bool)(h:Lib.cut s.data.toList [47]=(n,d,f))(W:World) :
 CR 83 #[.string s,.string ⟨#[47]⟩] W (.tuple #[.string ⟨n.toArray⟩,.string ⟨d.toArray⟩,.bool f]):=by
 have h1:=cut1 47 s hs W;rw[h]at h1;exact h1
theorem z6U (z:Int):(⟨(Sz z).data.toList.toArray⟩:ByteArray)=Sz z:=by cases Sz z;simp
theorem z6d (n:Nat):(⟨(Lib.decDigits n).toArray⟩:ByteArray)=Sz (n:Int):=by rw[dB];rfl
theorem j5 (q:Rat)(hq:FitQ q)(w:World)(hl:La w) :
 CR 44 #[.string (Sq q)] w (.tuple #[Fv q,.bool true]):=by
 have hsz:(Sq q).size≤100000:=by have:=z0l (show SmQ 900 q from hq) (by decide);omega
 unfold Fv
 by_cases h:q.den=1
 · have hc:=z1S q.num
   rw[← jB h]at hc
   have h2:=mY (Sq q) (Sq q) ⟨#[]⟩ true w hl (fun W=>by
    have:=z3K (Sq q) hsz _ _ _ hc W
    rwa [show(⟨(Sq q).data.toList.toArray⟩:ByteArray)=Sq q by cases Sq q;simp]at this) (fun W hW=>by rw[jB h];exact dD q.num hq.numL.z W hW.zz)
   rw[h,show((1:Nat):Int)=1 from rfl,kW];rw[jB h]at h2 ⊢;exact h2
 · have hc:=yF h
   have hd:=q.den_nz
   refine lh (Sq q) (Sz q.num) (Sz (q.den:Int)) 1 true (jy (by omega)) (by decide) w hl (fun W=>by
    have:=z3K (Sq q) hsz _ _ _ hc W
    rwa [z6U,z6d]at this) (fun W hW=>dD q.num hq.numL.z W hW.zz) (fun W hW=>dD (q.den:Int) hq.denL.z W hW.zz) (fun W hW=>nW _ _ (Int.sign_natCast_of_ne_zero hd) hq.denL W hW) (fun W hW=>xW _ _ _ ?_ hq.numL hq.denL W hW)
   have hg:Nat.gcd q.num.natAbs q.den=1:=q.reduced;rw[Int.natAbs_natCast,hg];rfl
theorem size_mk (l:List UInt8):(⟨l.toArray⟩:ByteArray).size=l.length:=by simp[ByteArray.size]
theorem z1k (l:List UInt8):(⟨l.toArray⟩:ByteArray).data.toList=l:=by simp
theorem sK (a:ByteArray)(h:vldQ a.data.toList=false)(ha:a.size≤900)(w:World)(hl:La w) :
 Calls Tryz.prog 44 #[.string a] w fun e w'=>(∃ n d:ByteArray,e=.returned (.tuple #[.agg #[.string n,.string d],.bool false]))∧Below w.heap.size w w':=by
 have hsz:a.size≤100000:=by omega
 rcases oH 47 a.data.toList with⟨_,e⟩|⟨x,y,hx47,el,e⟩
 · unfold vldQ at h
   rw[e]at h;simp only[Bool.false_eq_true,if_false]at h;have hc:=fun W=>z3K a hsz _ _ _ e W;rw[show(⟨a.data.toList.toArray⟩:ByteArray)=a by cases a;simp]at hc;refine(mY a a ⟨#[]⟩ false w hl hc (fun W hW=>nN a h (by unfold maxLen;omega) W)).mono ?_;rintro e w' ⟨rfl,hb⟩;exact⟨⟨_,_,rfl⟩,hb⟩
 · have hl2:x.length+1+y.length≤900:=by
    have h2:a.data.toList.length=x.length+1+y.length:=by rw[el];simp;omega
    rw[aC]at h2;omega
   unfold vldQ at h
   rw[e]at h;simp only[if_true]at h;have hc:=fun W=>z3K a hsz _ _ _ e W;have fin:∀ {v w'},(v=Ending.returned (.tuple #[.agg #[.string ⟨#[]⟩,.string ⟨#[]⟩],.bool false])∧Below w.heap.size w w')→(∃ n d:ByteArray,v=.returned (.tuple #[.agg #[.string n,.string d],.bool false]))∧Below w.heap.size w w':=fun h=>⟨⟨_,_,h.1⟩,h.2⟩
   cases hv1:vldZ x with
   | false =>
     refine(rO a ⟨x.toArray⟩ ⟨y.toArray⟩ w hl hc (fun W hW=>nN _ (by simpa using hv1) (by rw[size_mk];unfold maxLen;omega) W)).mono ?_;intro e w' h;exact fin h
   | true =>
     have ex:=z0i (a:=⟨x.toArray⟩) (by simpa using hv1);rw[z1k]at ex
     have fx:FitL (zval x):=by
        have:=jD (z:=zval x) (k:=900) (by rw[← ex,size_mk];omega);exact FitL.of this (by decide)
     rw[ex]at hc
     cases hv2:vldZ y with
     | false =>
       refine(rJ a _ ⟨y.toArray⟩ w hl hc (fun W hW=>dD _ fx.z W hW.zz) (fun W hW=>nN _ (by simpa using hv2) (by rw[size_mk];unfold maxLen;omega) W)).mono ?_;intro e w' h;exact fin h
     | true =>
       have ey:=z0i (a:=⟨y.toArray⟩) (by simpa using hv2);rw[z1k]at ey
       have fy:FitL (zval y):=by
        have:=jD (z:=zval y) (k:=900) (by rw[← ey,size_mk];omega);exact FitL.of this (by decide)
       rw[ey]at hc;by_cases hy1:zval y=1
       · rw[hy1,kW]at hc
         refine(rH a _ w hl hc (fun W hW=>dD _ fx.z W hW.zz) (fun W hW=>by have:=dD 1 fl1.z W hW.zz;rwa [kW]at this)).mono ?_;intro e w' h;exact fin h
       · have hne:=jy hy1
         by_cases hpos:1≤zval y
         · have hco:(Nat.gcd (zval x).natAbs (zval y).natAbs==1)=false:=by
            unfold vldP at h
            rw[hv1,hv2]at h
            have h49:(y==[49])=false:=by
             rw[beq_eq_false_iff_ne];rintro rfl;exact hy1 (by decide)
            rw[h49]at h;simpa [hpos] using h
           refine(lh a _ _ 1 false hne (by decide) w hl hc (fun W hW=>dD _ fx.z W hW.zz) (fun W hW=>dD _ fy.z W hW.zz) (fun W hW=>nW _ _ (Int.sign_eq_one_of_pos (by omega)) fy W hW) (fun W hW=>xW _ _ _ hco fx fy W hW)).mono ?_;rintro e w' ⟨rfl,hb⟩;exact⟨⟨_,_,rfl⟩,hb⟩
         · refine(rG a _ _ (zval y).sign hne ?_ w hl hc (fun W hW=>dD _ fx.z W hW.zz) (fun W hW=>dD _ fy.z W hW.zz) (fun W hW=>nW _ _ rfl fy W hW)).mono ?_
           · rcases Int.sign_trichotomy (zval y) with h3|h3|h3
             · exact absurd (Int.sign_eq_one_iff_pos.1 h3) (by omega)
             · omega
             · omega
           · intro e w' h;exact fin h
