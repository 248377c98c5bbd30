/- Texts of this proof, one behind the other. -/
import Derived.Test.YtggoeabhbkbadaaGreatDoorQj
namespace Go.Gb
def nextG (n g:Int):Int:=(g+n / g) / 2
theorem newton_stop {n g:Int}(hg:1≤g)(h:g≤nextG n g):g*g≤n:=by
 unfold nextG at h
 have h1:g≤n / g:=by omega
 exact(Int.le_ediv_iff_mul_le (by omega)).1 h1
theorem newton_pos {n g:Int}(hn:1≤n)(hg:1≤g):1≤nextG n g:=by
 unfold nextG
 have h0:0≤n / g:=Int.ediv_nonneg (by omega) (by omega)
 rcases Int.lt_or_le g 2 with h|h
 · have:g=1:=by omega
   subst this
   rw[Int.ediv_one]
   omega
 · omega
theorem newton_step {n g:Int}(hg:1≤g):n<(nextG n g+1)*(nextG n g+1):=by
 obtain⟨s,hs⟩:∃ s,nextG n g=s:=⟨_,rfl⟩
 obtain⟨a,ha⟩:∃ a,n / g=a:=⟨_,rfl⟩
 have h1:g+a≤2*s+1:=by
  unfold nextG at hs
  rw[ha]at hs
  omega
 have h2:n<g*(a+1):=by
  rw[← ha,Int.mul_comm]
  exact Int.lt_ediv_add_one_mul_self n (by omega)
 rw[hs]
 have h3:0≤(g-(a+1))*(g-(a+1)):=by
  rcases Int.le_total 0 (g-(a+1)) with h|h
  · exact Int.mul_nonneg h h
  · have:=Int.mul_nonneg (show 0≤(a+1)-g by omega) (show 0≤(a+1)-g by omega)
    grind
 rcases Int.lt_or_le (a+1) 0 with hneg|hpos
 · have h5:0≤(s+1)*(s+1):=by
    rcases Int.le_total 0 (s+1) with h|h
    · exact Int.mul_nonneg h h
    · have:=Int.mul_nonneg (show 0 ≤ -(s+1) by omega) (show 0 ≤ -(s+1) by omega)
      grind
   have h6:0≤g*(-(a+1)):=Int.mul_nonneg (by omega) (by omega)
   grind
 · have h4:0≤(2*(s+1)-(g+a+1))*(2*(s+1)+(g+a+1)):=Int.mul_nonneg (by omega) (by omega)
   grind
theorem floor_quot (n g:Int)(hg:0<g):((n:Rat) / (g:Rat)).num / (((n:Rat) / (g:Rat)).den:Int)=n / g:=by
 obtain⟨q,hq⟩:∃ q:Rat,q=(n:Rat) / (g:Rat):=⟨_,rfl⟩
 rw[← hq]
 have e2:q.num*g=n*(q.den:Int):=by
  have h:Rat.divInt q.num (q.den:Int)=Rat.divInt n g:=by rw[Rat.num_divInt_den,hq,Rat.divInt_eq_div]
  exact(Rat.divInt_eq_divInt_iff (by have:=q.den_nz;omega) (by omega)).1 h
 have hd:(0:Int)<(q.den:Int):=by have:=q.den_nz;omega
 rw[← Int.mul_ediv_mul_of_pos_left q.num (q.den:Int) hg,e2,Int.mul_comm n,Int.mul_ediv_mul_of_pos _ _ hd]
end Go.Gb
namespace Go.Gb
def isq:Nat→Nat
 | 0=>0
 | n+1=>if (isq n+1)*(isq n+1)≤n+1 then isq n+1 else isq n
theorem isq_spec:∀ n,isq n*isq n≤n∧n<(isq n+1)*(isq n+1)
 | 0=>by decide
 | n+1=>by
   have⟨h1,h2⟩:=isq_spec n
   unfold isq
   split
   · next h=>exact⟨h,Nat.lt_of_le_of_lt h2 (by grind)⟩
   · next h=>exact⟨by omega,by omega⟩
theorem isq_uniq {n s:Nat}(h1:s*s≤n)(h2:n<(s+1)*(s+1)):isq n=s:=by
 have⟨g1,g2⟩:=isq_spec n
 rcases Nat.lt_trichotomy (isq n) s with h|h|h
 · have:=Nat.mul_le_mul (show isq n+1≤s by omega) (show isq n+1≤s by omega)
   omega
 · exact h
 · have:=Nat.mul_le_mul (show s+1≤isq n by omega) (show s+1≤isq n by omega)
   omega
theorem isq_sq (m:Nat):isq (m*m)=m:=isq_uniq (Nat.le_refl _) (by grind)
theorem isq_pos {n:Nat}(h:0<n):0<isq n:=by
 have⟨_,g2⟩:=isq_spec n
 rcases Nat.eq_zero_or_pos (isq n) with h0|h0
 · rw[h0]at g2;omega
 · exact h0
theorem isq_le (n:Nat):isq n≤n:=by
 have⟨h,_⟩:=isq_spec n
 rcases Nat.eq_zero_or_pos (isq n) with h0|h0
 · omega
 · exact Nat.le_trans (Nat.le_mul_of_pos_left _ h0) h
theorem sq_parts (x:Rat):(x*x).num=x.num*x.num∧(x*x).den=x.den*x.den:=by
 have hr:Nat.gcd (x.num*x.num).natAbs (x.den*x.den)=1:=by
  rw[Int.natAbs_mul]
  have h:=x.reduced
  exact Nat.Coprime.mul_left (Nat.Coprime.mul_right h h) (Nat.Coprime.mul_right h h)
 have e:x*x=mkRat (x.num*x.num) (x.den*x.den):=Rat.mul_def' x x
 rw[e,← Rat.normalize_eq_mkRat (Nat.mul_ne_zero x.den_nz x.den_nz)]
 rw[Rat.num_normalize,Rat.den_normalize,hr]
 simp
end Go.Gb
namespace Go.Proofs.YtggoeabhbkbadaaGreatDoor
open Go.RowKit Go.Gb
theorem sn_sq (n:Nat):Sn n=Sq ((n:Nat):Rat):=by
 rw[← sz_nat]
 exact(sq_ofInt (n:Int)).symm
theorem smq_nat {k n:Nat}(h:Sm k n)(hk:1≤k):SmQ k ((n:Nat):Rat) :=
 ⟨(show Sm k (((n:Nat):Rat)).num.natAbs from by simpa using h),(show Sm k (((n:Nat):Rat)).den from by
   have:(((n:Nat):Rat)).den=1:=rfl
   rw[this]
   exact(show Sm 1 1 by unfold Sm;decide).mono hk)⟩
theorem oplus_n {x y z:Rat}(h:x+y=z)(hx:FitQ x)(hy:FitQ y)(w:World)(hla:La w):CV w 48 #[.string (Sq x),.string (Sq y)] (.string (Sq z)) :=
 oplus_raw _ _ _ 0 w (fun W hW=>qAdd x y z h hx hy W (hla.on hW))
theorem otimes_n {x y z:Rat}(h:x*y=z)(hx:FitQ x)(hy:FitQ y)(w:World)(hla:La w):CV w 40 #[.string (Sq x),.string (Sq y)] (.string (Sq z)) :=
 otimes_raw _ _ _ 0 w (fun W hW=>qMul x y z h hx hy W (hla.on hW))
theorem oover_n {x y z:Rat}(h:x / y=z)(hx:FitQ x)(hy:FitQ y)(h0:y≠0)(w:World)(hla:La w):CV w 38 #[.string (Sq x),.string (Sq y)] (.string (Sq z)) :=
 oover_raw _ _ _ 0 w (fun W hW=>qDiv x y z h hx hy h0 W (hla.on hW))
theorem oorder_n {x y:Rat}{c:Int}(h:cmpQ x y=c)(hx:FitQ x)(hy:FitQ y)(w:World)(hla:La w):CV w 71 #[.string (Sq x),.string (Sq y)] (.int .i64 c) :=
 oorder_raw _ _ _ 0 w (fun W hW=>qCompare x y c h hx hy W (hla.on hW))
theorem ofloor_n {x:Rat}{z:Int}(h:x.num / (x.den:Int)=z)(hx:FitQ x)(w:World)(hla:La w):CV w 75 #[.string (Sq x)] (.string (Sz z)) :=
 ofloor_raw _ _ 0 w (fun W hW=>h▸qfloor x hx W (hla.on hW))
theorem ohalf:Sq ((1:Rat) / 2)=⟨#[49,47,50]⟩:=by decide +kernel
theorem oround {n g:Nat}{k:Nat}(hg:1≤g)(hn:Sm k n)(hgs:Sm k g)(hk:1≤k)(hk2:k≤400)(w:World)(hla:La w) :
 CV w 38 #[.string (Sn n),.string (Sn g)] (.string (Sq (((n:Nat):Rat) / ((g:Nat):Rat)))) ∧
 CV w 75 #[.string (Sq (((n:Nat):Rat) / ((g:Nat):Rat)))] (.string (Sn (n / g))) ∧
 CV w 48 #[.string (Sn g),.string (Sn (n / g))] (.string (Sn (g+n / g))) ∧
 CV w 40 #[.string (Sn (g+n / g)),.string ⟨#[49,47,50]⟩] (.string (Sq (((g+n / g:Nat):Rat)*((1:Rat) / 2)))) ∧
 CV w 75 #[.string (Sq (((g+n / g:Nat):Rat)*((1:Rat) / 2)))] (.string (Sn ((g+n / g) / 2))):=by
 have g0:((g:Nat):Rat)≠0:=by
  intro h
  have:=Rat.intCast_eq_zero_iff.1 (show(((g:Nat):Int):Rat)=0 from h)
  omega
 have qn:=smq_nat hn hk
 have qg:=smq_nat hgs hk
 have hd:Sm k (n / g):=hn.le (Nat.div_le_self _ _)
 have qd:=smq_nat hd hk
 have hs:Sm (k+1) (g+n / g):=Sm.add hgs hd
 have qs:=smq_nat hs (by omega)
 have hh:SmQ 1 ((1:Rat) / 2):=⟨by unfold Sm;decide +kernel,by unfold Sm;decide +kernel⟩
 refine⟨?_,?_,?_,?_,?_⟩
 · rw[sn_sq,sn_sq]
   exact oover_n rfl (qn.fit (by omega)) (qg.fit (by omega)) g0 w hla
 · have h:=ofloor_n (x:=((n:Nat):Rat) / ((g:Nat):Rat)) (z:=((n / g:Nat):Int)) (by
    have:=floor_quot (n:Int) (g:Int) (by omega)
    rw[Int.natCast_ediv]
    exact this) ((qn.div qg g0).fit (by omega)) w hla
   rwa [sz_nat]at h
 · rw[sn_sq,sn_sq,sn_sq]
   exact oplus_n (by rw[Rat.natCast_add]) (qg.fit (by omega)) (qd.fit (by omega)) w hla
 · rw[sn_sq,← ohalf]
   exact otimes_n rfl (qs.fit (by omega)) (hh.fit (by decide)) w hla
 · have h:=ofloor_n (x:=((g+n / g:Nat):Rat)*((1:Rat) / 2)) (z:=(((g+n / g) / 2:Nat):Int)) (by
    have e:((g+n / g:Nat):Rat)*((1:Rat) / 2)=(((g+n / g:Nat):Int):Rat) / ((2:Int):Rat):=by
        have e1:(((g+n / g:Nat):Int):Rat)=((g+n / g:Nat):Rat):=rfl
        have e2:((2:Int):Rat)=2:=rfl
        rw[e1,e2]
        grind
    rw[e,floor_quot _ 2 (by decide),Int.natCast_ediv]
    rfl) ((qs.mul hh).fit (by omega)) w hla
   rwa [sz_nat]at h
end Go.Proofs.YtggoeabhbkbadaaGreatDoor
set_option maxRecDepth 100000
set_option maxHeartbeats 20000000
open Go.Lib (hid)
namespace Go.Proofs.YtggoeabhbkbadaaGreatDoor
open Go.RowKit Go.Gb
theorem nstep {n g:Nat}(hg:1≤g):n<((g+n / g) / 2+1)*((g+n / g) / 2+1):=by
 have h:=newton_step (n:=(n:Int)) (g:=(g:Int)) (by omega)
 unfold nextG at h
 exact_mod_cast h
theorem npos {n g:Nat}(hn:1≤n)(hg:1≤g):1≤(g+n / g) / 2:=by
 have h:=newton_pos (n:=(n:Int)) (g:=(g:Int)) (by omega) (by omega)
 unfold nextG at h
 exact_mod_cast h
theorem nstop {n g:Nat}(hg:1≤g)(h:g≤(g+n / g) / 2):g*g≤n:=by
 have h:=newton_stop (n:=(n:Int)) (g:=(g:Int)) (by omega) (by unfold nextG;exact_mod_cast h)
 exact_mod_cast h
def AbG (n g:Nat):Prop:=1≤g∧n<(g+1)*(g+1)
theorem owhole_zero (w₀:World):CV w₀ 39 #[.string ⟨#[48]⟩] (.string ⟨#[48]⟩):=by
 intro w hw
 clear hw
 go_enter Tryz.func39,Tryz.ntmps39
 go_wp2
 go_ret
 exact⟨rfl,Below.refl _ _⟩
theorem owhole_raw (x:ByteArray)(n g0:Nat)(T:Nat→ByteArray)(q t:Nat→ByteArray)(hx:(x.toList==[48])=false)(hn:1≤n)(hg0:AbG n g0)(w₀:World)
 (hfg:CV w₀ 74 #[.string x] (.string (T g0)))
 (h1:∀ g,AbG n g→g≤g0→CV w₀ 38 #[.string x,.string (T g)] (.string (q g)))
 (h2:∀ g,AbG n g→g≤g0→CV w₀ 75 #[.string (q g)] (.string (T (n / g))))
 (h3:∀ g,AbG n g→g≤g0→CV w₀ 48 #[.string (T g),.string (T (n / g))] (.string (T (g+n / g))))
 (h4:∀ g,AbG n g→g≤g0→CV w₀ 40 #[.string (T (g+n / g)),.string ⟨#[49,47,50]⟩] (.string (t g)))
 (h5:∀ g,AbG n g→g≤g0→CV w₀ 75 #[.string (t g)] (.string (T ((g+n / g) / 2))))
 (h6:∀ g,AbG n g→g≤g0→CV w₀ 71 #[.string (T ((g+n / g) / 2)),.string (T g)] (.int .i64 (if (g+n / g) / 2<g then -1 else if g<(g+n / g) / 2 then 1 else 0))) :
 CV w₀ 39 #[.string x] (.string (T (isq n))):=by
 intro w hw
 have C0:=hid (hfg.mono hw)
 have C1:=hid (fun g ha hg=>(h1 g ha hg).mono hw)
 have C2:=hid (fun g ha hg=>(h2 g ha hg).mono hw)
 have C3:=hid (fun g ha hg=>(h3 g ha hg).mono hw)
 have C4:=hid (fun g ha hg=>(h4 g ha hg).mono hw)
 have C5:=hid (fun g ha hg=>(h5 g ha hg).mono hw)
 have C6:=hid (fun g ha hg=>(h6 g ha hg).mono hw)
 have HN:=hid hn
 have HG0:=hid hg0
 clear hfg h1 h2 h3 h4 h5 h6 hw hn hg0
 go_enter Tryz.func39,Tryz.ntmps39
 go_wp2_with fail
 refine(C0.out _ (Below.refl _ _)).mono ?_
 rintro e w1 ⟨rfl,hb⟩
 have HB:=hid (show Below w.heap.size w w1 from hb)
 clear hb
 go_wp2
 go_loopg [3] g0 (fun k s3 wr=>∃ g,k=g∧s3=.string (T g)∧Hid (AbG n g)∧Hid (g≤g0)∧Hid (Below w.heap.size w wr))
 case atStart=>exact⟨g0,rfl,rfl,HG0,hid (Nat.le_refl _),HB⟩
 case round =>
  obtain⟨g,rfl,rfl,ha,hg,hB⟩:=hrel
  have D1:=hid (C1.out gk ha.out hg.out)
  have D2:=hid (C2.out gk ha.out hg.out)
  have D3:=hid (C3.out gk ha.out hg.out)
  have D4:=hid (C4.out gk ha.out hg.out)
  have D5:=hid (C5.out gk ha.out hg.out)
  have D6:=hid (C6.out gk ha.out hg.out)
  have HS:=hid (nstep (n:=n) ha.out.1)
  have HP:=hid (npos HN.out ha.out.1)
  have HT:=hid (fun h=>nstop (n:=n) ha.out.1 h)
  generalize (gk+n / gk) / 2=nx at *
  go_wp2_with fail
  refine(D1.out _ hB.out).mono ?_
  rintro e w2 ⟨rfl,hb⟩
  have B2:=hid (hB.out.trans (hb.mono hB.out.size))
  clear hb
  go_wp2_with fail
  refine(D2.out _ B2.out).mono ?_
  rintro e w3 ⟨rfl,hb⟩
  have B3:=hid (B2.out.trans (hb.mono B2.out.size))
  clear hb
  go_wp2_with fail
  refine(D3.out _ B3.out).mono ?_
  rintro e w4 ⟨rfl,hb⟩
  have B4:=hid (B3.out.trans (hb.mono B3.out.size))
  clear hb
  go_wp2_with fail
  refine(D4.out _ B4.out).mono ?_
  rintro e w5 ⟨rfl,hb⟩
  have B5:=hid (B4.out.trans (hb.mono B4.out.size))
  clear hb
  go_wp2_with fail
  refine(D5.out _ B5.out).mono ?_
  rintro e w6 ⟨rfl,hb⟩
  have B6:=hid (B5.out.trans (hb.mono B5.out.size))
  clear hb
  by_cases hlt:nx<gk
  · rw[if_pos hlt]at D6
    have HLT:=hid hlt
    clear hlt
    go_wp2_with fail
    refine(D6.out _ B6.out).mono ?_
    rintro e w7 ⟨rfl,hb⟩
    have B7:=hid (B6.out.trans (hb.mono B6.out.size))
    clear hb
    go_wp2
    go_roundg nx
    case measure=>exact HLT.out
    case rel=>exact⟨nx,rfl,rfl,hid ⟨HP.out,HS.out⟩,hid (Nat.le_trans (Nat.le_of_lt HLT.out) hg.out),B7⟩
  · rw[if_neg hlt]at D6
    have HE:=hid (isq_uniq (HT.out (by omega)) ha.out.2)
    obtain⟨c,hc⟩:∃ c:Int,(if gk<nx then (1:Int) else 0)=c:=⟨_,rfl⟩
    have hc0:decide (0≤c)=true:=decide_eq_true (by rw[← hc];split<;>decide)
    rw[hc]at D6
    clear hc hlt
    go_wp2_with fail
    refine(D6.out _ B6.out).mono ?_
    rintro e w7 ⟨rfl,hb⟩
    have B7:=hid (B6.out.trans (hb.mono B6.out.size))
    clear hb
    go_wp2
    go_ret
    exact⟨(by rw[HE.out];rfl),B7.out⟩
end Go.Proofs.YtggoeabhbkbadaaGreatDoor
set_option maxRecDepth 100000
set_option maxHeartbeats 20000000
open Go.Lib (hid)
namespace Go.Proofs.YtggoeabhbkbadaaGreatDoor
open Go.RowKit Go.Gb
theorem wrap_small {z:Int}(h0:0≤z)(h1:z≤1000000):IntKind.i64.wrap z=z:=by
 have:z.natAbs≤1000000:=by omega
 simp[IntKind.wrap,IntKind.bits,IntKind.signed]
 omega
theorem ofirst_short (x:ByteArray)(w₀:World)  (h1:((x.size:Nat):Int).tdiv 4=0) :
 CV w₀ 74 #[.string x] (.string ⟨#[51,50]⟩):=by
 intro w hw
 have k1:=h1
 clear h1 hw
 go_enter Tryz.func74,Tryz.ntmps74
 have HB0:=hid (Below.refl w.heap.size w)
 go_wp2
 exact bodyPost_ret (v:=.string ⟨#[51,50]⟩) (by simp[results,Tryz.results74,go_sem]) rfl ⟨rfl,HB0.out⟩
theorem ofirst_long (x hx r g z:ByteArray)(d m:Nat)(w₀:World)(h1:CV w₀ 39 #[.string hx] (.string r))(h2:CV w₀ 48 #[.string r,.string ⟨#[49]⟩] (.string g))(h3:CV w₀ 97 #[.string ⟨#[48]⟩,.int .i64 (d:Int)] (.string z))(e1:((x.size:Nat):Int).tdiv 4=(d:Int))(e2:IntKind.i64.wrap (d:Int)=(d:Int))(e3:((d:Int)==0)=false)(e4:IntKind.i64.wrap (2*(d:Int))=2*(d:Int))(e5:((x.size:Nat):Int)-2*(d:Int)=(m:Int))(e6:IntKind.i64.wrap (m:Int)=(m:Int))(e7:m≤x.size)(e8:x.extract 0 m=hx)(e9:g.size+z.size≤1000000) :
 CV w₀ 74 #[.string x] (.string (g++z)):=by
 intro w hw
 have C1:=hid (h1.mono hw)
 have C2:=hid (h2.mono hw)
 have C3:=hid (h3.mono hw)
 have k1:=e1
 have k2:=e2
 have k3:=e3
 have k3':¬ (d:Int)=0:=by simpa using e3
 have k4:=e4
 have k5:=e5
 have k6:=e6
 have k7:(m:Int)≤(x.size:Int):=by omega
 have k8:=e8
 have k9:=fun W:World=>run_string_add_sum (P:=Tryz.prog) W g z (by omega)
 clear e1 e2 e3 e4 e5 e6 e7 e8 e9 h1 h2 h3 hw
 go_enter Tryz.func74,Tryz.ntmps74
 have HB0:=hid (Below.refl w.heap.size w)
 go_wp2_with fail
 with_reducible refine(C1.out _ HB0.out).mono ?_
 rintro e W1 ⟨rfl,hb⟩
 have HB1:=hbt HB0 hb
 clear hb
 go_wp2_with fail
 with_reducible refine(C2.out _ HB1.out).mono ?_
 rintro e W2 ⟨rfl,hb⟩
 have HB2:=hbt HB1 hb
 clear hb
 go_wp2_with fail
 with_reducible refine(C3.out _ HB2.out).mono ?_
 rintro e W3 ⟨rfl,hb⟩
 have HB3:=hbt HB2 hb
 clear hb
 go_wp2
 exact bodyPost_ret (v:=.string (g++z)) (by simp[results,Tryz.results74,go_sem]) rfl ⟨rfl,HB3.out⟩
end Go.Proofs.YtggoeabhbkbadaaGreatDoor
