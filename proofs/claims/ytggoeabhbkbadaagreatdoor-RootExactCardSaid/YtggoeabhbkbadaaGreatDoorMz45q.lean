/- Texts of this proof, one behind the other. -/
import Derived.Test.YtggoeabhbkbadaaGreatDoorOj
import Derived.Test.YtggoeabhbkbadaaGreatDoorMz42q
namespace Go.Gb
def rootSign (a b c:Rat):Int :=
 if cmpQ b 0*cmpQ c 0=0∨cmpQ b 0*cmpQ c 0=cmpQ a 0 then cmpQ a 0
 else if cmpQ a 0=0 then cmpQ b 0*cmpQ c 0
 else cmpQ a 0*cmpQ (a*a) (b*b*c)
theorem cmp_neg (x:Rat):cmpQ (-x) 0 = -cmpQ x 0:=by
 rcases cmpQ_cases x 0 with⟨h,e⟩|⟨h,e⟩|⟨h,e⟩
 · rw[e,cmpQ_gt (show(0:Rat) < -x by grind)];rfl
 · subst h;rfl
 · rw[e,cmpQ_lt (show -x<(0:Rat) by grind)]
theorem rootSign_neg (a b c:Rat):rootSign (-a) (-b) c = -rootSign a b c:=by
 unfold rootSign
 rw[cmp_neg,cmp_neg,show -a * -a=a*a by grind,show -b * -b*c=b*b*c by grind]
 rw[Int.neg_mul]
 by_cases h1:cmpQ b 0*cmpQ c 0=0∨cmpQ b 0*cmpQ c 0=cmpQ a 0
 · rw[if_pos h1,if_pos (by omega)]
 · rw[if_neg h1,if_neg (by omega)]
   by_cases h2:cmpQ a 0=0
   · rw[if_pos h2,if_pos (by omega)]
   · rw[if_neg h2,if_neg (by omega),Int.neg_mul]
theorem cmp_pos {x:Rat}(h:0<x):cmpQ x 0=1:=cmpQ_gt h
theorem cmp_negv {x:Rat}(h:x<0):cmpQ x 0 = -1:=cmpQ_lt h
theorem rootSign_pos {a b c lo hi:Rat}(h0:0≤lo)(hlh:lo≤hi)(h1:lo*lo≤c)(h2:c≤hi*hi)(p1:0<a+b*lo)(p2:0<a+b*hi):rootSign a b c=1:=by
 have hc:0≤c:=by have:=Rat.mul_nonneg h0 h0;grind
 have hh:0≤hi:=by grind
 unfold rootSign
 rcases cmpQ_cases a 0 with⟨ha,ea⟩|⟨ha,ea⟩|⟨ha,ea⟩
 · have hbl:0<b*lo:=by grind
   have hb:0<b:=by
    rcases Rat.le_total (a:=b) (b:=0) with h|h
    · have:=Rat.mul_nonneg (show 0 ≤ -b by grind) h0;grind
    · rcases Rat.le_iff_lt_or_eq.1 h with h|h
      · exact h
      · subst h;grind
   have hl:0<lo:=by
    rcases Rat.le_iff_lt_or_eq.1 h0 with h|h
    · exact h
    · subst h;grind
   have hcp:0<c:=by have:=Rat.mul_pos hl hl;grind
   rw[ea,cmp_pos hb,cmp_pos hcp]
   have e1:=rsq_lt (show 0 ≤ -a by grind) (show -a<b*lo by grind)
   have e2:=Rat.mul_nonneg (Rat.mul_nonneg (Rat.le_of_lt hb) (Rat.le_of_lt hb)) (show 0≤c-lo*lo by grind)
   rw[cmpQ_lt (show a*a<b*b*c by grind)]
   first|decide|simp
 · subst ha
   have hbl:0<b*lo:=by grind
   have hb:0<b:=by
    rcases Rat.le_total (a:=b) (b:=0) with h|h
    · have:=Rat.mul_nonneg (show 0 ≤ -b by grind) h0;grind
    · rcases Rat.le_iff_lt_or_eq.1 h with h|h
      · exact h
      · subst h;grind
   have hl:0<lo:=by
    rcases Rat.le_iff_lt_or_eq.1 h0 with h|h
    · exact h
    · subst h;grind
   have hcp:0<c:=by have:=Rat.mul_pos hl hl;grind
   rw[ea,cmp_pos hb,cmp_pos hcp]
   first|decide|simp
 · rw[ea]
   rcases Rat.le_iff_lt_or_eq.1 hc with hcp|hc0
   · rw[cmp_pos hcp]
     rcases cmpQ_cases b 0 with⟨hb,eb⟩|⟨hb,eb⟩|⟨hb,eb⟩
     · rw[eb]
       have hbh:0 ≤ -b*hi:=Rat.mul_nonneg (by grind) hh
       have e1:=rsq_lt hbh (show -b*hi<a by grind)
       have e2:=Rat.mul_nonneg (Rat.mul_nonneg (show 0 ≤ -b by grind) (show 0 ≤ -b by grind)) (show 0≤hi*hi-c by grind)
       rw[cmpQ_gt (show b*b*c<a*a by grind)]
       first|decide|simp
     · rw[eb];first|decide|simp
     · rw[eb];first|decide|simp
   · subst hc0
     rw[cmpQ_eq,Int.mul_zero,if_pos (Or.inl rfl)]
theorem rootSign_zero {a b c lo hi:Rat}(h0:0≤lo)(hlh:lo≤hi)(h1:lo*lo≤c)(h2:c≤hi*hi)(p1:a+b*lo=0)(p2:a+b*hi=0):rootSign a b c=0:=by
 have hz:b*(hi-lo)=0:=by grind
 unfold rootSign
 rcases Rat.mul_eq_zero.1 hz with hb|hd
 · subst hb
   have ha:a=0:=by grind
   subst ha
   rw[cmpQ_eq,Int.zero_mul]
   first|decide|simp
 · have e:hi=lo:=by grind
   subst e
   have hc:c=hi*hi:=by grind
   have ha:a = -(b*hi):=by grind
   subst hc ha
   have e1 : -(b*hi) * -(b*hi)=b*b*(hi*hi):=by grind
   rw[e1,cmpQ_eq,Int.mul_zero]
   rcases Rat.le_iff_lt_or_eq.1 h0 with hp|hp
   · rw[cmp_pos (Rat.mul_pos hp hp),Int.mul_one,cmp_neg]
     rcases cmpQ_cases b 0 with⟨hb,eb⟩|⟨hb,eb⟩|⟨hb,eb⟩
     · rw[eb,cmp_negv (show b*hi<0 by have:=Rat.mul_pos (show 0 < -b by grind) hp;grind)];first|decide|simp
     · subst hb;rw[Rat.zero_mul,cmpQ_eq];first|decide|simp
     · rw[eb,cmp_pos (Rat.mul_pos hb hp)];first|decide|simp
   · subst hp
     rw[show(0:Rat)*0=0 by grind,Rat.mul_zero,Rat.neg_zero,cmpQ_eq,Int.mul_zero]
     first|decide|simp
theorem rootSign_sure {a b c lo hi:Rat}{m:Int}(h0:0≤lo)(hlh:lo≤hi)(h1:lo*lo≤c)(h2:c≤hi*hi)(p1:cmpQ (a+b*lo) 0=m)(p2:cmpQ (a+b*hi) 0=m):rootSign a b c=m:=by
 rcases cmpQ_cases (a+b*lo) 0 with⟨h,e⟩|⟨h,e⟩|⟨h,e⟩
 · have hm:m = -1:=by omega
   subst hm
   have g:a+b*hi<0:=by
    rcases cmpQ_cases (a+b*hi) 0 with⟨h,_⟩|⟨_,e⟩|⟨_,e⟩
    · exact h
    · omega
    · omega
   have:=rootSign_pos (a := -a) (b := -b) h0 hlh h1 h2 (by grind) (by grind)
   rw[rootSign_neg]at this
   omega
 · have hm:m=0:=by omega
   subst hm
   exact rootSign_zero h0 hlh h1 h2 h (cmpQ_zero.1 p2)
 · have hm:m=1:=by omega
   subst hm
   have g:0<a+b*hi:=by
    rcases cmpQ_cases (a+b*hi) 0 with⟨_,e⟩|⟨_,e⟩|⟨h,_⟩
    · omega
    · omega
    · exact h
   exact rootSign_pos h0 hlh h1 h2 h g
end Go.Gb
namespace Go.Proofs.YtggoeabhbkbadaaGreatDoor
open Go.RowKit Go.Gb
def Stt (w:World):Prop:=Stb w 0 #[.int .i64 (-1),.int .i64 (-1),.int .i64 2,.int .i64 (-1),.int .i64 0,.int .i64 1,.int .i64 2,.int .i64 1,.int .i64 1] 101
theorem Stt.on {w w':World}(h:Stt w)(hb:Below w.heap.size w w'):Stt w':=Stb.below h hb
theorem sg3 (x y:Rat):cmpQ x 0*cmpQ y 0 = -1∨cmpQ x 0*cmpQ y 0=0∨cmpQ x 0*cmpQ y 0=1:=by
 rcases cmpQ_cases x 0 with⟨_,e⟩|⟨_,e⟩|⟨_,e⟩<;>rcases cmpQ_cases y 0 with⟨_,f⟩|⟨_,f⟩|⟨_,f⟩<;>rw[e,f]<;>decide
theorem sg_wrap (x y:Rat):IntKind.i64.wrap (cmpQ x 0*cmpQ y 0)=cmpQ x 0*cmpQ y 0:=by
 rcases sg3 x y with h|h|h<;>rw[h]<;>decide
theorem oterm_sign_n {x y:Rat}{k:Nat}(hx:SmQ k x)(hy:SmQ k y)(hk:k≤900)(w:World)(hla:La w) :
 CV w 76 #[.agg #[.string (Sq x),.string (Sq y)]] (.int .i64 (cmpQ x 0*cmpQ y 0)) :=
 oterm_sign _ _ _ _ _ w (osign_n hx hk w hla) (osign_n hy hk w hla) (sg_wrap x y)
theorem oterm_square_n {x y:Rat}{k:Nat}(hx:SmQ k x)(hy:SmQ k y)(hk:k+k+k≤900)(w:World)(hla:La w) :
 CV w 77 #[.agg #[.string (Sq x),.string (Sq y)]] (.string (Sq (x*x*y))) :=
 oterm_square _ _ _ _ w (otimes_n rfl (hx.fit (by omega)) (hx.fit (by omega)) w hla) (otimes_n rfl ((hx.mul hx).fit (by omega)) (hy.fit (by omega)) w hla)
def sosQ (a u b c:Rat):Int :=
 if cmpQ b 0*cmpQ c 0=0∨cmpQ b 0*cmpQ c 0=cmpQ a 0*cmpQ u 0 then cmpQ a 0*cmpQ u 0
 else if cmpQ a 0*cmpQ u 0=0 then cmpQ b 0*cmpQ c 0
 else cmpQ a 0*cmpQ u 0*cmpQ (a*a*u) (b*b*c)
theorem sos_root (a b c:Rat):sosQ a 1 b c=rootSign a b c:=by
 unfold sosQ rootSign
 rw[show cmpQ (1:Rat) 0=1 from cmpQ_gt (by decide +kernel),Int.mul_one,Rat.mul_one]
theorem vcv {x:Rat}{k:Nat}(hx:SmQ k x)(hk:k≤900)(w:World)(hla:La w):CV w 16 #[.string (Sq x)] (.bool true):=fun W hW=>qvalid_yes x (hx.fit hk) W (hla.on hW)
theorem osos_n {a u b c:Rat}{k:Nat}(ha:SmQ k a)(hu:SmQ k u)(hb:SmQ k b)(hc:SmQ k c)(hk:k+k+k≤900)(u0:0≤u)(c0:0≤c)(w:World)(hla:La w)(hst:Stt w) :
 CV w 43 #[.agg #[.string (Sq a),.string (Sq u)],.agg #[.string (Sq b),.string (Sq c)]] (.tuple #[.int .i64 (sosQ a u b c),.int .i64 0]):=by
 have v1:=vcv ha (by omega) w hla
 have v2:=vcv hu (by omega) w hla
 have v3:=vcv hb (by omega) w hla
 have v4:=vcv hc (by omega) w hla
 have g1:=osign_n hu (by omega) w hla
 have g2:=osign_n hc (by omega) w hla
 have t1:=oterm_sign_n ha hu (by omega) w hla
 have t2:=oterm_sign_n hb hc (by omega) w hla
 have f1:=cmp0_nonneg u0
 have f2:=cmp0_nonneg c0
 have q1:=oterm_square_n ha hu hk w hla
 have q2:=oterm_square_n hb hc hk w hla
 have qo:=oorder_n (x:=a*a*u) (y:=b*b*c) rfl (((ha.mul ha).mul hu).fit hk) (((hb.mul hb).mul hc).fit hk) w hla
 obtain⟨v,hv⟩:∃ v,sosQ a u b c=v:=⟨_,rfl⟩
 rw[hv]
 unfold sosQ at hv
 rcases sg3 a u with hs|hs|hs<;>rcases sg3 b c with ht|ht|ht<;>rw[hs]at t1 hv<;>rw[ht]at t2 hv
 · obtain rfl:v=(-1):=by rw[← hv];first|decide|simp
   exact osos_mm _ _ _ _ _ _ w v1 v2 v3 v4 g1 g2 t1 t2 f1 f2 hst
 · obtain rfl:v=(-1):=by rw[← hv];first|decide|simp
   exact osos_mz _ _ _ _ _ _ w v1 v2 v3 v4 g1 g2 t1 t2 f1 f2 hst
 · rcases cmpQ_cases (a*a*u) (b*b*c) with⟨_,e⟩|⟨_,e⟩|⟨_,e⟩<;>rw[e]at qo hv
   · obtain rfl:v=1:=by rw[← hv];first|decide|simp
     exact osos_mpm _ _ _ _ _ _ _ _ w v1 v2 v3 v4 g1 g2 t1 t2 q1 q2 qo f1 f2 hst
   · obtain rfl:v=0:=by rw[← hv];first|decide|simp
     exact osos_mpz _ _ _ _ _ _ _ _ w v1 v2 v3 v4 g1 g2 t1 t2 q1 q2 qo f1 f2 hst
   · obtain rfl:v=(-1):=by rw[← hv];first|decide|simp
     exact osos_mpp _ _ _ _ _ _ _ _ w v1 v2 v3 v4 g1 g2 t1 t2 q1 q2 qo f1 f2 hst
 · obtain rfl:v=(-1):=by rw[← hv];first|decide|simp
   exact osos_zm _ _ _ _ _ _ w v1 v2 v3 v4 g1 g2 t1 t2 f1 f2 hst
 · obtain rfl:v=0:=by rw[← hv];first|decide|simp
   exact osos_zz _ _ _ _ _ _ w v1 v2 v3 v4 g1 g2 t1 t2 f1 f2 hst
 · obtain rfl:v=1:=by rw[← hv];first|decide|simp
   exact osos_zp _ _ _ _ _ _ w v1 v2 v3 v4 g1 g2 t1 t2 f1 f2 hst
 · rcases cmpQ_cases (a*a*u) (b*b*c) with⟨_,e⟩|⟨_,e⟩|⟨_,e⟩<;>rw[e]at qo hv
   · obtain rfl:v=(-1):=by rw[← hv];first|decide|simp
     exact osos_pmm _ _ _ _ _ _ _ _ w v1 v2 v3 v4 g1 g2 t1 t2 q1 q2 qo f1 f2 hst
   · obtain rfl:v=0:=by rw[← hv];first|decide|simp
     exact osos_pmz _ _ _ _ _ _ _ _ w v1 v2 v3 v4 g1 g2 t1 t2 q1 q2 qo f1 f2 hst
   · obtain rfl:v=1:=by rw[← hv];first|decide|simp
     exact osos_pmp _ _ _ _ _ _ _ _ w v1 v2 v3 v4 g1 g2 t1 t2 q1 q2 qo f1 f2 hst
 · obtain rfl:v=1:=by rw[← hv];first|decide|simp
   exact osos_pz _ _ _ _ _ _ w v1 v2 v3 v4 g1 g2 t1 t2 f1 f2 hst
 · obtain rfl:v=1:=by rw[← hv];first|decide|simp
   exact osos_pp _ _ _ _ _ _ w v1 v2 v3 v4 g1 g2 t1 t2 f1 f2 hst
theorem sq_one:Sq (1:Rat)=⟨#[49]⟩:=by decide +kernel
theorem sm_one:SmQ 1 (1:Rat):=⟨by unfold Sm;decide,by unfold Sm;decide⟩
theorem oSign_n {a b c:Rat}{k:Nat}(ha:SmQ k a)(hb:SmQ k b)(hc:SmQ k c)(hk1:1≤k)(hk:k+k+k≤900)(c0:0≤c)(w:World)(hla:La w)(hst:Stt w) :
 CV w 19 #[.string (Sq a),.string (Sq b),.string (Sq c)] (.tuple #[.int .i64 (rootSign a b c),.int .i64 0]):=by
 have h:=osos_n ha (sm_one.mono hk1) hb hc hk (by decide +kernel) c0 w hla hst
 rw[sos_root,sq_one]at h
 exact oSign_raw _ _ _ _ _ w h
theorem oSign_neg {a b c:Rat}{k:Nat}(ha:SmQ k a)(hb:SmQ k b)(hc:SmQ k c)(hk1:1≤k)(hk:k≤900)(c0:c<0)(w:World)(hla:La w) :
 CV w 19 #[.string (Sq a),.string (Sq b),.string (Sq c)] (.tuple #[.int .i64 0,.int .i64 2]):=by
 have o1:=sm_one.mono hk1
 have g2:=osign_n hc hk w hla
 rw[cmpQ_lt c0]at g2
 have h:=osos_neg2 _ _ _ _ _ w (vcv ha hk w hla) (vcv o1 hk w hla) (vcv hb hk w hla) (vcv hc hk w hla) (osign_n o1 hk w hla) g2 (cmp0_nonneg (by decide +kernel))
 rw[sq_one]at h
 exact oSign_raw _ _ _ _ _ w h
theorem qvn {a:ByteArray}(h:vldQ a.data.toList=false)(ha:a.size≤900)(w:World)(hla:La w):CV w 16 #[.string a] (.bool false):=fun W hW=>qvalid_no a h ha W (hla.on hW)
theorem oSign_no0 (a b c:ByteArray)(h:vldQ a.data.toList=false)(ha:a.size≤900)(w:World)(hla:La w) :
 CV w 19 #[.string a,.string b,.string c] (.tuple #[.int .i64 0,.int .i64 1]) :=
 oSign_raw _ _ _ _ _ w (osos_no0 _ _ _ _ w (qvn h ha w hla))
theorem oSign_no1 {a:Rat}{k:Nat}(ha:SmQ k a)(hk:k≤900)(b c:ByteArray)(h:vldQ b.data.toList=false)(hb:b.size≤900)(w:World)(hla:La w) :
 CV w 19 #[.string (Sq a),.string b,.string c] (.tuple #[.int .i64 0,.int .i64 1]):=by
 have v2:=vcv sm_one (by decide) w hla
 rw[sq_one]at v2
 exact oSign_raw _ _ _ _ _ w (osos_no2 _ _ _ _ w (vcv ha hk w hla) v2 (qvn h hb w hla))
theorem oSign_no2 {a b:Rat}{k:Nat}(ha:SmQ k a)(hb:SmQ k b)(hk:k≤900)(c:ByteArray)(h:vldQ c.data.toList=false)(hc:c.size≤900)(w:World)(hla:La w) :
 CV w 19 #[.string (Sq a),.string (Sq b),.string c] (.tuple #[.int .i64 0,.int .i64 1]):=by
 have v2:=vcv sm_one (by decide) w hla
 rw[sq_one]at v2
 exact oSign_raw _ _ _ _ _ w (osos_no3 _ _ _ _ w (vcv ha hk w hla) v2 (vcv hb hk w hla) (qvn h hc w hla))
theorem sq_nil:Sq (0:Rat)=⟨#[48]⟩:=by decide +kernel
theorem oCompare_n {a b c d m:Rat}{k:Nat}(hm:0-c=m)(ha:SmQ k a)(hb:SmQ k b)(hc:SmQ k c)(hd:SmQ k d)(hmm:SmQ k m)(hk:k+k+k≤900)(b0:0≤b)(d0:0≤d)(w:World)(hla:La w)(hst:Stt w) :
 CV w 23 #[.string (Sq a),.string (Sq b),.string (Sq c),.string (Sq d)] (.tuple #[.int .i64 (sosQ a b m d),.int .i64 0]):=by
 have h1:CV w 13 #[.string ⟨#[48]⟩,.string (Sq c)] (.tuple #[.string (Sq m),.int .i64 0]):=fun W hW=>by
  have h:=qSub 0 c m hm ((show SmQ 1 (0:Rat) from⟨by unfold Sm;decide,by unfold Sm;decide⟩).fit (by decide)) (hc.fit (by omega)) W (hla.on hW)
  rwa [sq_nil]at h
 exact oCompare_raw _ _ _ _ _ _ _ w h1 (osos_n ha hb hmm hd hk b0 d0 w hla hst)
end Go.Proofs.YtggoeabhbkbadaaGreatDoor
set_option maxRecDepth 100000
set_option maxHeartbeats 20000000
open Go.Lib (hid)
namespace Go.Proofs.YtggoeabhbkbadaaGreatDoor
open Go.RowKit Go.Gb
abbrev Lb (w:World):Prop:=La w∧Stt w
theorem lb_on {w w':World}(h:Lb w)(hb:Below w.heap.size w w'):Lb w':=⟨h.1.on hb,h.2.on hb⟩
theorem so20 {q:Rat}(h1:q.num.natAbs<1000)(h2:q.den<1000):SmQ 20 q:=⟨(show Sm 3 _ by unfold Sm;omega).mono (by decide),(show Sm 3 _ by unfold Sm;omega).mono (by decide)⟩
theorem eK_lit {x:Rat}{n s:Nat}(m:Nat)(h:(x*((n:Rat)*(n:Rat))).floor.toNat=m)(h1:s*s≤m)(h2:m<(s+1)*(s+1)):eK x n=s:=by
 unfold eK rk
 rw[h]
 exact isq_uniq h1 h2
theorem eH_up {x:Rat}{n s:Nat}(hk:eK x n=s)(h:decide (((s:Nat):Rat)*((s:Nat):Rat)=x*((n:Rat)*(n:Rat)))=false):eH x n=s+1:=by
 unfold eH eX
 rw[hk,h]
 rfl
theorem eH_ex {x:Rat}{n s:Nat}(hk:eK x n=s)(h:decide (((s:Nat):Rat)*((s:Nat):Rat)=x*((n:Rat)*(n:Rat)))=true):eH x n=s:=by
 unfold eH eX
 rw[hk,h]
 rfl
theorem oq_2:Sq (2:Rat)=⟨#[50]⟩:=by decide +kernel
theorem oq_3:Sq (3:Rat)=⟨#[51]⟩:=by decide +kernel
theorem oq_4:Sq (4:Rat)=⟨#[52]⟩:=by decide +kernel
theorem oq_9:Sq (9:Rat)=⟨#[57]⟩:=by decide +kernel
theorem oq_16:Sq (16:Rat)=⟨#[49,54]⟩:=by decide +kernel
theorem oq_25:Sq (25:Rat)=⟨#[50,53]⟩:=by decide +kernel
theorem oq_n2:Sq (-2:Rat)=⟨#[45,50]⟩:=by decide +kernel
theorem oq_9d4:Sq (9/4:Rat)=⟨#[57,47,52]⟩:=by decide +kernel
theorem oq_3d2:Sq (3/2:Rat)=⟨#[51,47,50]⟩:=by decide +kernel
theorem e2_k:eK (2:Rat) 10=14:=eK_lit 200 (by decide +kernel) (by decide) (by decide)
theorem e2_h:eH (2:Rat) 10=15:=eH_up e2_k (by decide +kernel)
theorem e94_k:eK (9/4:Rat) 2=3:=eK_lit 9 (by decide +kernel) (by decide) (by decide)
theorem e94_h:eH (9/4:Rat) 2=3:=eH_ex e94_k (by decide +kernel)
theorem e9_k:eK (9:Rat) 10=30:=eK_lit 900 (by decide +kernel) (by decide) (by decide)
theorem e9_h:eH (9:Rat) 10=30:=eH_ex e9_k (by decide +kernel)
theorem e25_k:eK (25:Rat) 7=35:=eK_lit 1225 (by decide +kernel) (by decide) (by decide)
theorem e25_h:eH (25:Rat) 7=35:=eH_ex e25_k (by decide +kernel)
theorem ox_sqrt1 (w:World)(hla:La w):CV w 9 #[.string ⟨#[50]⟩,.int .i64 10] (.tuple #[.agg #[.string ⟨#[55,47,53]⟩,.string ⟨#[51,47,50]⟩],.int .i64 0]):=by
 have h:=oSqrt_n (x:=2) (n:=10) (k:=20) (by decide +kernel) (so20 (by decide +kernel) (by decide +kernel)) (by decide) (by decide) (by decide) (by decide) w hla
 rw[e2_k,e2_h,oq_2,show Sq (((14:Nat):Rat) / ((10:Nat):Rat))=⟨#[55,47,53]⟩from by decide +kernel,show Sq (((15:Nat):Rat) / ((10:Nat):Rat))=⟨#[51,47,50]⟩from by decide +kernel]at h
 exact h
theorem ox_sqrt2 (w:World)(hla:La w):CV w 9 #[.string ⟨#[57,47,52]⟩,.int .i64 2] (.tuple #[.agg #[.string ⟨#[51,47,50]⟩,.string ⟨#[51,47,50]⟩],.int .i64 0]):=by
 have h:=oSqrt_n (x:=(9/4)) (n:=2) (k:=20) (by decide +kernel) (so20 (by decide +kernel) (by decide +kernel)) (by decide) (by decide) (by decide) (by decide) w hla
 rw[e94_k,e94_h,oq_9d4,show Sq (((3:Nat):Rat) / ((2:Nat):Rat))=⟨#[51,47,50]⟩from by decide +kernel]at h
 exact h
theorem ox_sqrt3 (w:World)(hla:La w):CV w 9 #[.string ⟨#[50,53]⟩,.int .i64 7] (.tuple #[.agg #[.string ⟨#[53]⟩,.string ⟨#[53]⟩],.int .i64 0]):=by
 have h:=oSqrt_n (x:=25) (n:=7) (k:=20) (by decide +kernel) (so20 (by decide +kernel) (by decide +kernel)) (by decide) (by decide) (by decide) (by decide) w hla
 rw[e25_k,e25_h,oq_25,show Sq (((35:Nat):Rat) / ((7:Nat):Rat))=⟨#[53]⟩from by decide +kernel]at h
 exact h
theorem ox_sign (w:World)(hl:Lb w):CV w 19 #[.string ⟨#[51]⟩,.string ⟨#[45,50]⟩,.string ⟨#[50]⟩] (.tuple #[.int .i64 1,.int .i64 0]):=by
 have h:=oSign_n (a:=3) (b := -2) (c:=2) (k:=20) (so20 (by decide +kernel) (by decide +kernel)) (so20 (by decide +kernel) (by decide +kernel)) (so20 (by decide +kernel) (by decide +kernel)) (by decide) (by decide) (by decide +kernel) w hl.1 hl.2
 rw[show rootSign 3 (-2) 2=1 from by decide +kernel,oq_3,oq_n2,oq_2]at h
 exact h
theorem ox_compare (w:World)(hl:Lb w):CV w 23 #[.string ⟨#[50]⟩,.string ⟨#[51]⟩,.string ⟨#[51]⟩,.string ⟨#[50]⟩] (.tuple #[.int .i64 (-1),.int .i64 0]):=by
 have h:=oCompare_n (a:=2) (b:=3) (c:=3) (d:=2) (m := -3) (k:=20) (by decide +kernel) (so20 (by decide +kernel) (by decide +kernel)) (so20 (by decide +kernel) (by decide +kernel)) (so20 (by decide +kernel) (by decide +kernel)) (so20 (by decide +kernel) (by decide +kernel)) (so20 (by decide +kernel) (by decide +kernel)) (by decide) (by decide +kernel) (by decide +kernel) w hl.1 hl.2
 rw[show sosQ 2 3 (-3) 2 = -1 from by decide +kernel,oq_2,oq_3]at h
 exact h
theorem rootQ_94:rootQ (9 / 4)=3 / 2:=by
 unfold rootQ
 rw[show((9:Rat) / 4).num.natAbs=9 from by decide +kernel,show((9:Rat) / 4).den=4 from by decide +kernel,isq_uniq (n:=9) (s:=3) (by decide) (by decide),isq_uniq (n:=4) (s:=2) (by decide) (by decide)]
 decide +kernel
theorem ox_exact (w:World)(hla:La w):CV w 17 #[.string ⟨#[57,47,52]⟩] (.tuple #[.string ⟨#[51,47,50]⟩,.bool true,.int .i64 0]):=by
 have h:=oExact_yes (x:=9 / 4) (k:=20) (by decide +kernel) (so20 (by decide +kernel) (by decide +kernel)) (by decide) (by decide) (by rw[rootQ_94];decide +kernel) w hla
 rw[rootQ_94,oq_9d4,oq_3d2]at h
 exact h
theorem ox_of (w:World)(hla:La w):CV w 24 #[.agg #[.string ⟨#[50]⟩,.string ⟨#[57]⟩],.int .i64 10] (.tuple #[.agg #[.string ⟨#[55,47,53]⟩,.string ⟨#[51]⟩],.int .i64 0]):=by
 have h:=oOf_n (x:=2) (y:=9) (n:=10) (k:=20) (by decide +kernel) (by decide +kernel) (so20 (by decide +kernel) (by decide +kernel)) (so20 (by decide +kernel) (by decide +kernel)) (by decide) (by decide) (by decide) (by decide) w hla
 rw[e2_k,e9_h,oq_2,oq_9,show Sq (((14:Nat):Rat) / ((10:Nat):Rat))=⟨#[55,47,53]⟩from by decide +kernel,show Sq (((30:Nat):Rat) / ((10:Nat):Rat))=⟨#[51]⟩from by decide +kernel]at h
 exact h
theorem ox_norm (g:Nat)(w:World)(hla:La w)(k:SBk w g #[.string ⟨#[51]⟩,.string ⟨#[52]⟩] 22):CV w 25 #[.slice (some ⟨g,0,none⟩) 2 2,.int .i64 7] (.tuple #[.agg #[.string ⟨#[53]⟩,.string ⟨#[53]⟩],.int .i64 0]):=by
 have f0:FitQ (0:Rat):=(show SmQ 1 (0:Rat) from⟨by unfold Sm;decide,by unfold Sm;decide⟩).fit (by decide)
 have f:∀ {q:Rat},q.num.natAbs<1000→q.den<1000→FitQ q:=fun h1 h2=>(so20 h1 h2).fit (by decide)
 have v3:=vcv (x:=3) (so20 (by decide +kernel) (by decide +kernel)) (by decide) w hla
 have v4:=vcv (x:=4) (so20 (by decide +kernel) (by decide +kernel)) (by decide) w hla
 have t1:=otimes_n (x:=3) (y:=3) (z:=9) (by decide +kernel) (f (by decide +kernel) (by decide +kernel)) (f (by decide +kernel) (by decide +kernel)) w hla
 have p1:=oplus_n (x:=0) (y:=9) (z:=9) (by decide +kernel) f0 (f (by decide +kernel) (by decide +kernel)) w hla
 have t2:=otimes_n (x:=4) (y:=4) (z:=16) (by decide +kernel) (f (by decide +kernel) (by decide +kernel)) (f (by decide +kernel) (by decide +kernel)) w hla
 have p2:=oplus_n (x:=9) (y:=16) (z:=25) (by decide +kernel) (f (by decide +kernel) (by decide +kernel)) (f (by decide +kernel) (by decide +kernel)) w hla
 rw[oq_3]at v3 t1
 rw[oq_4]at v4 t2
 rw[oq_9]at t1 p1 p2
 rw[sq_nil]at p1
 rw[oq_16]at t2 p2
 rw[oq_25]at p2
 exact onorm2_raw g _ _ _ _ _ _ _ _ _ _ w v3 t1 p1 v4 t2 p2 (ox_sqrt3 w hla) k
theorem root_awake  (w₀:World)  (hla:Lb w₀) :
 CV w₀ 7 #[] (.bool true):=by
 intro w hw
 have HT:=hid (lb_on hla hw)
 clear hla hw
 go_enter Tryz.func7,Tryz.ntmps7
 have HB0:=hid (Below.refl w.heap.size w)
 go_wp2_with fail
 with_reducible refine((ox_sqrt1 _ (lb_on HT.out HB0.out).1).at).mono ?_
 rintro e W1 ⟨rfl,hb⟩
 have HB1:=hbt HB0 hb
 clear hb
 go_upto_region 2 with fail
 refine wp_boxes W1 [(#[.string ⟨#[55,47,53]⟩,.string ⟨#[51,47,50]⟩],27)] rfl ?_
 have L1:=HB1.out.size
 rintro W2 ⟨k1,hb⟩
 have hb:Below W1.heap.size W1 W2:=hb
 have HB2:=hbt HB1 hb
 have K1:=hid k1
 clear k1 hb
 go_wp2_with fail
 with_reducible refine((ox_sqrt2 _ (lb_on HT.out HB2.out).1).at).mono ?_
 rintro e W3 ⟨rfl,hb⟩
 have K1:=hid (K1.out.below hb)
 have HB3:=hbt HB2 hb
 clear hb
 go_upto_region 3 with fail
 refine wp_boxes W3 [(#[.string ⟨#[51,47,50]⟩,.string ⟨#[51,47,50]⟩],27)] rfl ?_
 have L2:=K1.out.lt
 have L3:=HB3.out.size
 rintro W4 ⟨k2,hb⟩
 have hb:Below W3.heap.size W3 W4:=hb
 have K1:=hid (K1.out.below hb)
 have HB4:=hbt HB3 hb
 have K2:=hid k2
 clear k2 hb
 go_wp2_with fail
 with_reducible refine((ox_sign _ (lb_on HT.out HB4.out)).at).mono ?_
 rintro e W5 ⟨rfl,hb⟩
 have K1:=hid (K1.out.below hb)
 have K2:=hid (K2.out.below hb)
 have HB5:=hbt HB4 hb
 clear hb
 go_wp2_with fail
 with_reducible refine((ox_compare _ (lb_on HT.out HB5.out)).at).mono ?_
 rintro e W6 ⟨rfl,hb⟩
 have K1:=hid (K1.out.below hb)
 have K2:=hid (K2.out.below hb)
 have HB6:=hbt HB5 hb
 clear hb
 go_wp2_with fail
 with_reducible refine((ox_exact _ (lb_on HT.out HB6.out).1).at).mono ?_
 rintro e W7 ⟨rfl,hb⟩
 have K1:=hid (K1.out.below hb)
 have K2:=hid (K2.out.below hb)
 have HB7:=hbt HB6 hb
 clear hb
 go_wp2_with fail
 with_reducible refine((ox_of _ (lb_on HT.out HB7.out).1).at).mono ?_
 rintro e W8 ⟨rfl,hb⟩
 have K1:=hid (K1.out.below hb)
 have K2:=hid (K2.out.below hb)
 have HB8:=hbt HB7 hb
 clear hb
 go_upto_region 7 with fail
 refine wp_boxes W8 [(#[.string ⟨#[55,47,53]⟩,.string ⟨#[51]⟩],27)] rfl ?_
 have L4:=K1.out.lt
 have L5:=K2.out.lt
 have L6:=HB8.out.size
 rintro W9 ⟨k3,hb⟩
 have hb:Below W8.heap.size W8 W9:=hb
 have K1:=hid (K1.out.below hb)
 have K2:=hid (K2.out.below hb)
 have HB9:=hbt HB8 hb
 have K3:=hid k3
 clear k3 hb
 go_wp2_with fail
 have hb:=below_new W9 (.cells #[.string ⟨#[51]⟩,.string ⟨#[52]⟩] 22)
 have k4:=SBk.new W9 #[.string ⟨#[51]⟩,.string ⟨#[52]⟩] 22
 generalize W9.alloc (.cells #[.string ⟨#[51]⟩,.string ⟨#[52]⟩] 22)=W10 at *
 have K1:=hid (K1.out.below hb)
 have K2:=hid (K2.out.below hb)
 have K3:=hid (K3.out.below hb)
 have HB10:=hbt HB9 hb
 have K4:=hid k4
 clear k4 hb
 with_reducible refine((ox_norm _ _ (lb_on HT.out HB10.out).1 K4.out).at).mono ?_
 rintro e W11 ⟨rfl,hb⟩
 have K1:=hid (K1.out.below hb)
 have K2:=hid (K2.out.below hb)
 have K3:=hid (K3.out.below hb)
 have K4:=hid (K4.out.below hb)
 have HB11:=hbt HB10 hb
 clear hb
 go_upto_region 8 with fail
 refine wp_boxes W11 [(#[.string ⟨#[53]⟩,.string ⟨#[53]⟩],27)] rfl ?_
 have L7:=K1.out.lt
 have L8:=K2.out.lt
 have L9:=K3.out.lt
 have L10:=K4.out.lt
 have L11:=HB11.out.size
 rintro W12 ⟨k5,hb⟩
 have hb:Below W11.heap.size W11 W12:=hb
 have K1:=hid (K1.out.below hb)
 have K2:=hid (K2.out.below hb)
 have K3:=hid (K3.out.below hb)
 have HB12:=hbt HB11 hb
 have K5:=hid k5
 clear k5 hb
 have dK10:=K1.out.cell (i:=0) rfl
 have dK11:=K1.out.cell (i:=1) rfl
 have dK20:=K2.out.cell (i:=0) rfl
 have dK21:=K2.out.cell (i:=1) rfl
 have dK30:=K3.out.cell (i:=0) rfl
 have dK31:=K3.out.cell (i:=1) rfl
 have dK50:=K5.out.cell (i:=0) rfl
 have dK51:=K5.out.cell (i:=1) rfl
 go_wp2
 exact bodyPost_ret (v:=.bool true) (by simp[results,Tryz.results7,go_sem]) rfl ⟨rfl,HB12.out⟩
end Go.Proofs.YtggoeabhbkbadaaGreatDoor
