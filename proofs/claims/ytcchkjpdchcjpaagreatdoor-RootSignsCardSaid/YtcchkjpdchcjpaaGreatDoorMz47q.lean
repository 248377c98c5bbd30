/- texts -/
import Derived.Test.YtcchkjpdchcjpaaGreatDoorMz44q
import Derived.Test.YtcchkjpdchcjpaaGreatDoorOj
namespace Go.Proofs.YtcchkjpdchcjpaaGreatDoor
open Go.RowKit Go.Gb
def Stt (w:World):Prop:=Stb w 0 #[.int .i64 (-1),.int .i64 (-1),.int .i64 2,.int .i64 (-1),.int .i64 0,.int .i64 1,.int .i64 2,.int .i64 1,.int .i64 1] 71
theorem Stt.on {w w':World}(h:Stt w)(hb:Below w.heap.size w w'):Stt w':=Stb.below h hb
theorem sg3 (x y:Rat):aP x 0*aP y 0 = -1∨aP x 0*aP y 0=0∨aP x 0*aP y 0=1:=by
 rcases bB x 0 with⟨_,e⟩|⟨_,e⟩|⟨_,e⟩<;>rcases bB y 0 with⟨_,f⟩|⟨_,f⟩|⟨_,f⟩<;>rw[e,f]<;>decide
theorem z3p (x y:Rat):IntKind.i64.wrap (aP x 0*aP y 0)=aP x 0*aP y 0:=by
 rcases sg3 x y with h|h|h<;>rw[h]<;>decide
theorem lV {x y:Rat}{k:Nat}(hx:SmQ k x)(hy:SmQ k y)(hk:k≤900)(w:World)(hla:La w) :
 CV w 38 #[.agg #[.string (Sq x),.string (Sq y)]] (.int .i64 (aP x 0*aP y 0)) :=
 yn _ _ _ _ _ w (gN hx hk w hla) (gN hy hk w hla) (z3p x y)
theorem jQ {x y:Rat}{k:Nat}(hx:SmQ k x)(hy:SmQ k y)(hk:k+k+k≤900)(w:World)(hla:La w) :
 CV w 40 #[.agg #[.string (Sq x),.string (Sq y)]] (.string (Sq (x*x*y))) :=
 sW _ _ _ _ w (fZ rfl (hx.fit (by omega)) (hx.fit (by omega)) w hla) (fZ rfl ((hx.mul hx).fit (by omega)) (hy.fit (by omega)) w hla)
def sosQ (a u b c:Rat):Int :=
 if aP b 0*aP c 0=0∨aP b 0*aP c 0=aP a 0*aP u 0 then aP a 0*aP u 0
 else if aP a 0*aP u 0=0 then aP b 0*aP c 0
 else aP a 0*aP u 0*aP (a*a*u) (b*b*c)
theorem z1t (a b c:Rat):sosQ a 1 b c=j5 a b c:=by
 unfold sosQ j5
 rw[show aP (1:Rat) 0=1 from ko (by decide +kernel),Int.mul_one,Rat.mul_one]
theorem vcv {x:Rat}{k:Nat}(hx:SmQ k x)(hk:k≤900)(w:World)(hla:La w):CV w 35 #[.string (Sq x)] (.bool true):=fun W hW=>p9 x (hx.fit hk) W (hla.on hW)
theorem z3a {a u b c:Rat}{k:Nat}(ha:SmQ k a)(hu:SmQ k u)(hb:SmQ k b)(hc:SmQ k c)(hk:k+k+k≤900)(u0:0≤u)(c0:0≤c)(w:World)(hla:La w)(hst:Stt w) :
 CV w 16 #[.agg #[.string (Sq a),.string (Sq u)],.agg #[.string (Sq b),.string (Sq c)]] (.tuple #[.int .i64 (sosQ a u b c),.int .i64 0]):=by
 have v1:=vcv ha (by omega) w hla;have v2:=vcv hu (by omega) w hla;have v3:=vcv hb (by omega) w hla;have v4:=vcv hc (by omega) w hla;have g1:=gN hu (by omega) w hla;have g2:=gN hc (by omega) w hla;have t1:=lV ha hu (by omega) w hla;have t2:=lV hb hc (by omega) w hla;have f1:=dm u0;have f2:=dm c0;have q1:=jQ ha hu hk w hla;have q2:=jQ hb hc hk w hla;have qo:=qP (x:=a*a*u) (y:=b*b*c) rfl (((ha.mul ha).mul hu).fit hk) (((hb.mul hb).mul hc).fit hk) w hla;obtain⟨v,hv⟩:∃ v,sosQ a u b c=v:=⟨_,rfl⟩;rw[hv];unfold sosQ at hv
 rcases sg3 a u with hs|hs|hs<;>rcases sg3 b c with ht|ht|ht<;>rw[hs]at t1 hv<;>rw[ht]at t2 hv
 · obtain rfl:v=(-1):=by rw[← hv];first|decide|simp
   exact z3L _ _ _ _ _ _ w v1 v2 v3 v4 g1 g2 t1 t2 f1 f2 hst
 · obtain rfl:v=(-1):=by rw[← hv];first|decide|simp
   exact z3K _ _ _ _ _ _ w v1 v2 v3 v4 g1 g2 t1 t2 f1 f2 hst
 · rcases bB (a*a*u) (b*b*c) with⟨_,e⟩|⟨_,e⟩|⟨_,e⟩<;>rw[e]at qo hv
   · obtain rfl:v=1:=by rw[← hv];first|decide|simp
     exact z1V _ _ _ _ _ _ _ _ w v1 v2 v3 v4 g1 g2 t1 t2 q1 q2 qo f1 f2 hst
   · obtain rfl:v=0:=by rw[← hv];first|decide|simp
     exact z1T _ _ _ _ _ _ _ _ w v1 v2 v3 v4 g1 g2 t1 t2 q1 q2 qo f1 f2 hst
   · obtain rfl:v=(-1):=by rw[← hv];first|decide|simp
     exact z1U _ _ _ _ _ _ _ _ w v1 v2 v3 v4 g1 g2 t1 t2 q1 q2 qo f1 f2 hst
 · obtain rfl:v=(-1):=by rw[← hv];first|decide|simp
   exact z3H _ _ _ _ _ _ w v1 v2 v3 v4 g1 g2 t1 t2 f1 f2 hst
 · obtain rfl:v=0:=by rw[← hv];first|decide|simp
   exact z3F _ _ _ _ _ _ w v1 v2 v3 v4 g1 g2 t1 t2 f1 f2 hst
 · obtain rfl:v=1:=by rw[← hv];first|decide|simp
   exact z3G _ _ _ _ _ _ w v1 v2 v3 v4 g1 g2 t1 t2 f1 f2 hst
 · rcases bB (a*a*u) (b*b*c) with⟨_,e⟩|⟨_,e⟩|⟨_,e⟩<;>rw[e]at qo hv
   · obtain rfl:v=(-1):=by rw[← hv];first|decide|simp
     exact z1Q _ _ _ _ _ _ _ _ w v1 v2 v3 v4 g1 g2 t1 t2 q1 q2 qo f1 f2 hst
   · obtain rfl:v=0:=by rw[← hv];first|decide|simp
     exact z1O _ _ _ _ _ _ _ _ w v1 v2 v3 v4 g1 g2 t1 t2 q1 q2 qo f1 f2 hst
   · obtain rfl:v=1:=by rw[← hv];first|decide|simp
     exact z1P _ _ _ _ _ _ _ _ w v1 v2 v3 v4 g1 g2 t1 t2 q1 q2 qo f1 f2 hst
 · obtain rfl:v=1:=by rw[← hv];first|decide|simp
   exact z3I _ _ _ _ _ _ w v1 v2 v3 v4 g1 g2 t1 t2 f1 f2 hst
 · obtain rfl:v=1:=by rw[← hv];first|decide|simp
   exact z3J _ _ _ _ _ _ w v1 v2 v3 v4 g1 g2 t1 t2 f1 f2 hst
theorem wH:Sq (1:Rat)=⟨#[49]⟩:=by decide +kernel
theorem wI:SmQ 1 (1:Rat):=⟨by unfold Sm;decide,by unfold Sm;decide⟩
theorem z0n {a b c:Rat}{k:Nat}(ha:SmQ k a)(hb:SmQ k b)(hc:SmQ k c)(hk1:1≤k)(hk:k+k+k≤900)(c0:0≤c)(w:World)(hla:La w)(hst:Stt w) :
 CV w 6 #[.string (Sq a),.string (Sq b),.string (Sq c)] (.tuple #[.int .i64 (j5 a b c),.int .i64 0]):=by
 have h:=z3a ha (wI.mono hk1) hb hc hk (by decide +kernel) c0 w hla hst;rw[z1t,wH]at h;exact jm _ _ _ _ _ w h
theorem z0m {a b c:Rat}{k:Nat}(ha:SmQ k a)(hb:SmQ k b)(hc:SmQ k c)(hk1:1≤k)(hk:k≤900)(c0:c<0)(w:World)(hla:La w) :
 CV w 6 #[.string (Sq a),.string (Sq b),.string (Sq c)] (.tuple #[.int .i64 0,.int .i64 2]):=by
 have o1:=wI.mono hk1;have g2:=gN hc hk w hla;rw[iE c0]at g2;have h:=sZ _ _ _ _ _ w (vcv ha hk w hla) (vcv o1 hk w hla) (vcv hb hk w hla) (vcv hc hk w hla) (gN o1 hk w hla) g2 (dm (by decide +kernel));rw[wH]at h;exact jm _ _ _ _ _ w h
theorem qvn {a:ByteArray}(h:vldQ a.data.toList=false)(ha:a.size≤900)(w:World)(hla:La w):CV w 35 #[.string a] (.bool false):=fun W hW=>z05 a h ha W (hla.on hW)
theorem z0l (a b c:ByteArray)(h:vldQ a.data.toList=false)(ha:a.size≤900)(w:World)(hla:La w) :
 CV w 6 #[.string a,.string b,.string c] (.tuple #[.int .i64 0,.int .i64 1]) :=
 jm _ _ _ _ _ w (xg _ _ _ _ w (qvn h ha w hla))
theorem z0k {a:Rat}{k:Nat}(ha:SmQ k a)(hk:k≤900)(b c:ByteArray)(h:vldQ b.data.toList=false)(hb:b.size≤900)(w:World)(hla:La w) :
 CV w 6 #[.string (Sq a),.string b,.string c] (.tuple #[.int .i64 0,.int .i64 1]):=by
 have v2:=vcv wI (by decide) w hla;rw[wH]at v2;exact jm _ _ _ _ _ w (z1R _ _ _ _ w (vcv ha hk w hla) v2 (qvn h hb w hla))
theorem z0j {a b:Rat}{k:Nat}(ha:SmQ k a)(hb:SmQ k b)(hk:k≤900)(c:ByteArray)(h:vldQ c.data.toList=false)(hc:c.size≤900)(w:World)(hla:La w) :
 CV w 6 #[.string (Sq a),.string (Sq b),.string c] (.tuple #[.int .i64 0,.int .i64 1]):=by
 have v2:=vcv wI (by decide) w hla;rw[wH]at v2;exact jm _ _ _ _ _ w (xe _ _ _ _ w (vcv ha hk w hla) v2 (vcv hb hk w hla) (qvn h hc w hla))
theorem zH:Sq (0:Rat)=⟨#[48]⟩:=by decide +kernel
theorem pE {a b c d m:Rat}{k:Nat}(hm:0-c=m)(ha:SmQ k a)(hb:SmQ k b)(hc:SmQ k c)(hd:SmQ k d)(hmm:SmQ k m)(hk:k+k+k≤900)(b0:0≤b)(d0:0≤d)(w:World)(hla:La w)(hst:Stt w) :
 CV w 8 #[.string (Sq a),.string (Sq b),.string (Sq c),.string (Sq d)] (.tuple #[.int .i64 (sosQ a b m d),.int .i64 0]):=by
 have h1:CV w 21 #[.string ⟨#[48]⟩,.string (Sq c)] (.tuple #[.string (Sq m),.int .i64 0]):=fun W hW=>by
  have h:=qSub 0 c m hm ((show SmQ 1 (0:Rat) from⟨by unfold Sm;decide,by unfold Sm;decide⟩).fit (by decide)) (hc.fit (by omega)) W (hla.on hW);rwa [zH]at h
 exact eY _ _ _ _ _ _ _ w h1 (z3a ha hb hmm hd hk b0 d0 w hla hst)
theorem qM {x y:Rat}(hx:0<x)(hy:0<y):0<x*y:=Rat.mul_pos hx hy
theorem rE (x y:Rat):aP (x*y) 0=aP x 0*aP y 0:=by
 rcases bB x 0 with⟨h1,e1⟩|⟨h1,e1⟩|⟨h1,e1⟩<;>rcases bB y 0 with⟨h2,e2⟩|⟨h2,e2⟩|⟨h2,e2⟩<;>rw[e1,e2]
 · exact ko (by have:=qM (show 0 < -x by grind) (show 0 < -y by grind);grind)
 · rw[h2,Rat.mul_zero];exact jc 0
 · exact iE (by have:=qM (show 0 < -x by grind) h2;grind)
 · rw[h1,Rat.zero_mul];exact jc 0
 · rw[h1,Rat.zero_mul];exact jc 0
 · rw[h1,Rat.zero_mul];exact jc 0
 · exact iE (by have:=qM h1 (show 0 < -y by grind);grind)
 · rw[h2,Rat.mul_zero];exact jc 0
 · exact ko (qM h1 h2)
theorem uh (x y:Rat):aP (-x) (-y) = -aP x y:=by
 rcases bB x y with⟨h,e⟩|⟨h,e⟩|⟨h,e⟩<;>rw[e]
 · exact ko (by grind)
 · rw[h];exact jc _
 · exact iE (by grind)
theorem yA {u v:Rat}:(aP u 0 = -1∧aP v 0 = -1)∨(aP u 0=1∧aP v 0=1)∨(aP v 0=0∧aP u v=aP u 0)∨(aP u 0=0∧aP u v = -aP v 0)∨(aP u 0 = -1∧aP v 0=1∧aP u v = -1)∨(aP u 0=1∧aP v 0 = -1∧aP u v=1):=by
 rcases bB u 0 with⟨h1,e1⟩|⟨h1,e1⟩|⟨h1,e1⟩<;>rcases bB v 0 with⟨h2,e2⟩|⟨h2,e2⟩|⟨h2,e2⟩<;>rw[e1,e2]
 · simp
 · refine Or.inr (Or.inr (Or.inl ⟨rfl,?_⟩));rw[h2];exact e1
 · refine Or.inr (Or.inr (Or.inr (Or.inr (Or.inl ⟨rfl,rfl,?_⟩))));exact iE (by grind)
 · refine Or.inr (Or.inr (Or.inr (Or.inl ⟨rfl,?_⟩)));rw[h1];exact ko h2
 · refine Or.inr (Or.inr (Or.inl ⟨rfl,?_⟩));rw[h1,h2];exact jc 0
 · refine Or.inr (Or.inr (Or.inr (Or.inl ⟨rfl,?_⟩)));rw[h1];exact iE h2
 · refine Or.inr (Or.inr (Or.inr (Or.inr (Or.inr ⟨rfl,rfl,?_⟩))));exact ko (by grind)
 · refine Or.inr (Or.inr (Or.inl ⟨rfl,?_⟩));rw[h2];exact e1
 · simp
def jU (s t k:Int) (z:Bool):Int:=if s=0 then (if z then 0 else t) else if z=true∨t=0∨s=t then s else s*k
theorem zB (a b c:Rat)(hc:0≤c):jU (aP a 0) (aP b 0) (aP (a*a) (b*b*c)) (aP c 0==0)=j5 a b c:=by
 unfold jU j5
 rcases bB c 0 with⟨h3,e3⟩|⟨h3,e3⟩|⟨h3,e3⟩
 · grind
 · rw[e3]
   rcases bB a 0 with⟨h1,e1⟩|⟨h1,e1⟩|⟨h1,e1⟩<;>rw[e1]<;>simp
 · rw[e3]
   rcases bB a 0 with⟨h1,e1⟩|⟨h1,e1⟩|⟨h1,e1⟩<;>rcases bB b 0 with⟨h2,e2⟩|⟨h2,e2⟩|⟨h2,e2⟩<;>rw[e1,e2]<;>simp
theorem z3n (a b c d:Rat)(hb:0≤b)(hd:0≤d):sosQ a b (0-c) d=aP (a*a*b*(aP a 0:Rat)) (c*c*d*(aP c 0:Rat)):=by
 have hm:aP (0-c) 0 = -aP c 0:=by
  have h:=uh c 0;rw[show(-0:Rat)=0 by grind]at h;rw[show(0:Rat)-c = -c by grind];exact h
 have hcc:(0-c)*(0-c)*d=c*c*d:=by grind
 unfold sosQ
 rw[hm,hcc];have n1:aP ((-1:Int):Rat) 0 = -1:=by decide +kernel
 have n0:aP ((0:Int):Rat) 0=0:=by decide +kernel
 have p1:aP ((1:Int):Rat) 0=1:=by decide +kernel
 have sq:∀ x y:Rat,0≤y→aP (x*x*y*(aP x 0:Rat)) 0=aP x 0*aP y 0:=fun x y _=>by
  rw[rE,rE,rE];rcases bB x 0 with⟨_,e⟩|⟨_,e⟩|⟨_,e⟩<;>rw[e]
  · rw[n1];omega
  · rw[n0];omega
  · rw[p1];omega
 have hu:=sq a b hb;have hv:=sq c d hd;have ca:aP a 0 = -1∨aP a 0=0∨aP a 0=1:=by rcases bB a 0 with⟨_,e⟩|⟨_,e⟩|⟨_,e⟩<;>simp[e]
 have cc:aP c 0 = -1∨aP c 0=0∨aP c 0=1:=by rcases bB c 0 with⟨_,e⟩|⟨_,e⟩|⟨_,e⟩<;>simp[e]
 have cb:aP b 0=0∨aP b 0=1:=by
  rcases bB b 0 with⟨_,e⟩|⟨_,e⟩|⟨_,e⟩
  · grind
  · exact Or.inl e
  · exact Or.inr e
 have cd:aP d 0=0∨aP d 0=1:=by
  rcases bB d 0 with⟨_,e⟩|⟨_,e⟩|⟨_,e⟩
  · grind
  · exact Or.inl e
  · exact Or.inr e
 have hs := @yA (a*a*b*(aP a 0:Rat)) (c*c*d*(aP c 0:Rat));rw[hu,hv]at hs
 have same:∀ k:Int,aP a 0=k→aP c 0=k→k=1∨k = -1→aP (a*a*b*(aP a 0:Rat)) (c*c*d*(aP c 0:Rat))=k*aP (a*a*b) (c*c*d):=fun k h1 h2 h3=>by
  rw[h1,h2];rcases h3 with rfl|rfl
  · rw[show((1:Int):Rat)=1 from rfl,Rat.mul_one,Rat.mul_one,Int.one_mul]
  · rw[show ∀ x:Rat,x*((-1:Int):Rat) = -x from fun x=>by have:((-1:Int):Rat) = -1:=rfl;rw[this];grind,show ∀ x:Rat,x*((-1:Int):Rat) = -x from fun x=>by have:((-1:Int):Rat) = -1:=rfl;rw[this];grind,uh];omega
 generalize aP (a*a*b*(aP a 0:Rat)) (c*c*d*(aP c 0:Rat))=K at *;generalize aP (a*a*b) (c*c*d)=k at *;generalize aP a 0=sa at *;generalize aP b 0=sb at *;generalize aP c 0=sc at *;generalize aP d 0=sd at *;rcases ca with rfl|rfl|rfl<;>rcases cb with rfl|rfl<;>rcases cc with rfl|rfl|rfl<;>rcases cd with rfl|rfl<;>simp at hs ⊢ <;> first|omega|(have:=same _ rfl rfl (by decide);omega)
theorem z2Y (x:Rat)(n:Int):rdQ x n=(((x*(n:Rat)).floor:Int):Rat) / (n:Rat):=by
 unfold rdQ
 rw[Rat.divInt_eq_div,Rat.floor_def];rfl
def Iv (g:Nat) (x y:ByteArray) (W:World):Prop:=g<W.heap.size∧W.cell? ⟨g,0,none⟩=some (.string x)∧W.cell? ⟨g,1,none⟩=some (.string y)
theorem Iv.mono {g:Nat}{x y:ByteArray}{W W':World}(h:Iv g x y W)(hb:Below W.heap.size W W'):Iv g x y W' :=
 ⟨Nat.lt_of_lt_of_le h.1 hb.size,(hb.cell (p:=⟨g,0,none⟩) h.1).trans h.2.1,(hb.cell (p:=⟨g,1,none⟩) h.1).trans h.2.2⟩
def hcells (q:Nat→Rat) (m:Nat):List Value:=(List.range m).map fun j => .string (Sq (q j))
theorem xK (x y:Rat)(h:x≤y)(hx:FitQ x)(hy:FitQ y)(w:World)(hl:La w) :
 CR 31 #[.agg #[.string (Sq x),.string (Sq y)]] w (.bool true):=pK x y h hx hy w hl
theorem z4s (x:Rat)(hx:FitQ x)(w:World)(hl:La w) :
 CR 25 #[.string (Sq x)] w (.tuple #[.agg #[.string (Sq x),.string (Sq x)],.int .i64 0]):=z4N x hx w hl
theorem z4r {k:Nat}(a b:Rat)(n:Int)(hk:k≤400)(h:a≤b)(ha:SmQ k a)(hb:SmQ k b)(hn1:1≤n)(hn2:n≤1000000000)(w:World)(hl:La w) :
 CR 33 #[.agg #[.string (Sq a),.string (Sq b)],.int .i64 n] w (.tuple #[.agg #[.string (Sq (rdQ a n)),.string (Sq (0-rdQ (0-b) n))],.int .i64 0]):=z4M a b n hk h ha hb hn1 hn2 w hl
theorem mH {q:Rat}{z:Int}(h1:(z:Rat)≤q)(h2:q<(z:Rat)+1):q.floor=z:=by
 apply Int.le_antisymm
 · have:q.floor<z+1:=Rat.floor_lt_iff.2 (by rw[Rat.intCast_add];exact h2)
   omega
 · exact Rat.le_floor_iff.2 h1
theorem kR {a:Rat}{n:Nat}(hn:1≤n):a / ((n:Nat):Rat)*((n:Nat):Rat)=a:=Rat.div_mul_cancel (jX hn)
theorem z4C {x:Rat}{n:Nat}(hn:1≤n):rdQ (iN x n) (n:Int)=(eK x n:Rat) / (n:Rat):=by
 rw[z2Y];have e:(((n:Nat):Int):Rat)=((n:Nat):Rat):=rfl;have ek:(((eK x n:Nat):Int):Rat)=((eK x n:Nat):Rat):=rfl;rw[e]
 have hf:(iN x n*((n:Nat):Rat)).floor=((eK x n:Nat):Int):=by
  unfold iN
  split
  · rw[kR hn]
    exact mH (by rw[ek];exact Rat.le_refl) (by rw[ek];grind)
  · rw[kR hn]
    exact mH (by rw[ek];grind) (by rw[ek];grind)
 rw[hf,ek]
theorem z3x {x:Rat}{n:Nat}(hn:1≤n):0-rdQ (0-iN x n) (n:Int)=(eH x n:Rat) / (n:Rat):=by
 rw[z2Y];have e:(((n:Nat):Int):Rat)=((n:Nat):Rat):=rfl;have ek:(((eK x n:Nat):Int):Rat)=((eK x n:Nat):Rat):=rfl;rw[e];have eh:(((eH x n:Nat):Int):Rat)=((eH x n:Nat):Rat):=rfl
 have hf:((0-iN x n)*((n:Nat):Rat)).floor = -((eH x n:Nat):Int):=by
  have em:(0-iN x n)*((n:Nat):Rat) = -(iN x n*((n:Nat):Rat)):=by grind
  rw[em];unfold iN eH
  split
  · rw[kR hn]
    exact mH (by rw[Rat.intCast_neg,ek];exact Rat.le_refl) (by rw[Rat.intCast_neg,ek];grind)
  · rw[kR hn]
    have ek1:(((eK x n+1:Nat):Int):Rat)=((eK x n:Nat):Rat)+1:=by rw[Rat.intCast_natCast,Rat.natCast_add];rfl
    exact mH (by rw[Rat.intCast_neg,ek1];grind) (by rw[Rat.intCast_neg,ek1];grind)
 rw[hf,Rat.intCast_neg,eh];grind
theorem z0t {x y:Rat}{n:Nat}(hx:0≤x)(hxy:x≤y)(hn:1≤n):iN x n≤iN y n:=by
 have hy:0≤y:=by grind
 have hp:=qC hn;have hnn:(0:Rat)≤(n:Rat)*(n:Rat):=Rat.mul_nonneg (eQ n) (eQ n);have hm:x*((n:Rat)*(n:Rat))≤y*((n:Rat)*(n:Rat)):=Rat.mul_le_mul_of_nonneg_right hxy hnn;have⟨a1,a2⟩:=nQ (n:=n) hx;have⟨b1,b2⟩:=nQ (n:=n) hy;have hk:eK x n≤eK y n:=z4P hy (by grind);have hkr:=qD.2 hk;unfold iN
 split
 · split
   · exact gB hp hkr
   · exact gB hp (by grind)
 · rename_i h1
   split
   · rename_i h2
     refine gB hp ?_;have e2:=of_decide_eq_true h2
     have hne:eK x n≠eK y n:=by
        intro he;apply h1
        refine decide_eq_true ?_;rw[he]at a1 ⊢;grind
     have hlt:eK x n+1≤eK y n:=by omega
     have hlr:=qD.2 hlt;rw[Rat.natCast_add]at hlr;have:((1:Nat):Rat)=1:=rfl;grind
   · exact gB hp (by grind)
theorem z4J {x y:Rat}{n k:Nat}(h0:0≤x)(hxy:x≤y)(hx:SmQ k x)(hy:SmQ k y)(hk:1≤k)(hk2:k≤350)(hn1:1≤n)(hn2:n≤1000000000)(w:World)(hla:La w) :
 CV w 12 #[.agg #[.string (Sq x),.string (Sq y)],.int .i64 (n:Int)] (.tuple #[.agg #[.string (Sq ((eK x n:Rat) / (n:Rat))),.string (Sq ((eH y n:Rat) / (n:Rat)))],.int .i64 0]):=by
 have hn:Sm 10 n:=by
  have h:(1000000000:Nat)<10^10:=by decide
  exact Nat.lt_of_le_of_lt hn2 h
 have hy0:0≤y:=by grind
 have s1:=zO h0 hx hn hn1 hk;have s2:=zO hy0 hy hn hn1 hk;have cv:CV w 31 #[.agg #[.string (Sq x),.string (Sq y)]] (.bool true):=fun W hW=>xK x y hxy (hx.fit (by omega)) (hy.fit (by omega)) W (hla.on hW);have cs:=gN hx (by omega) w hla;have c1:=z0i h0 hx hk hk2 hn1 hn2 w hla;have c2:=z0i hy0 hy hk hk2 hn1 hn2 w hla
 have cr:CV w 33 #[.agg #[.string (Sq (iN x n)),.string (Sq (iN y n))],.int .i64 (n:Int)] (.tuple #[.agg #[.string (Sq ((eK x n:Rat) / (n:Rat))),.string (Sq ((eH y n:Rat) / (n:Rat)))],.int .i64 0]):=fun W hW=>by
  have h:=z4r (iN x n) (iN y n) (n:Int) (k:=k+33) (by omega) (z0t h0 hxy hn1) s1 s2 (by omega) (by omega) W (hla.on hW);rw[z4C hn1,z3x hn1]at h;exact h
 by_cases he:x=y
 · subst he
   exact z1W _ _ _ _ _ _ w cv cs c1 cr (dm h0) (by omega) (by omega)
 · exact z1X _ _ _ _ _ _ _ _ w cv cs c1 c2 cr (dm h0) (oQ (fun h=>he h.symm)) (by omega) (by omega)
theorem uR {x:Rat}{n k:Nat}(h0:0≤x)(hx:SmQ k x)(hk:1≤k)(hk2:k≤350)(hn1:1≤n)(hn2:n≤1000000000)(w:World)(hla:La w) :
 CV w 10 #[.string (Sq x),.int .i64 (n:Int)] (.tuple #[.agg #[.string (Sq ((eK x n:Rat) / (n:Rat))),.string (Sq ((eH x n:Rat) / (n:Rat)))],.int .i64 0]) :=
 z0d _ _ _ _ _ w (fun W hW=>z4s x (hx.fit (by omega)) W (hla.on hW)) (z4J h0 Rat.le_refl hx hx hk hk2 hn1 hn2 w hla)
