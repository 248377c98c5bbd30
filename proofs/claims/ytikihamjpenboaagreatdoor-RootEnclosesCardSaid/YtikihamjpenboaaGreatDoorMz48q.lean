/- texts -/
import Derived.Test.YtikihamjpenboaaGreatDoorMz46q
import Derived.Test.YtikihamjpenboaaGreatDoorOj
import Derived.Lib.SmallJoins
open Go.Proofs.Tryz
namespace Go.Proofs.YtikihamjpenboaaGreatDoor
open Go.RowKit Go.Gb
theorem nI {q:Rat}{z:Int}(h1:(z:Rat)≤q)(h2:q<(z:Rat)+1):q.floor=z:=by
 apply Int.le_antisymm
 · have:q.floor<z+1:=Rat.floor_lt_iff.2 (by rw[Rat.intCast_add];exact h2)
   omega
 · exact Rat.le_floor_iff.2 h1
theorem lI {a:Rat}{n:Nat}(hn:1≤n):a / ((n:Nat):Rat)*((n:Nat):Rat)=a:=Rat.div_mul_cancel (fU hn)
theorem z5Q {x:Rat}{n:Nat}(hn:1≤n):rdQ (iX x n) (n:Int)=(eK x n:Rat) / (n:Rat):=by
 rw[z4s];have e:(((n:Nat):Int):Rat)=((n:Nat):Rat):=rfl;have ek:(((eK x n:Nat):Int):Rat)=((eK x n:Nat):Rat):=rfl;rw[e]
 have hf:(iX x n*((n:Nat):Rat)).floor=((eK x n:Nat):Int):=by
  unfold iX
  split
  · rw[lI hn]
    exact nI (by rw[ek];exact Rat.le_refl) (by rw[ek];grind)
  · rw[lI hn]
    exact nI (by rw[ek];grind) (by rw[ek];grind)
 rw[hf,ek]
theorem z4S {x:Rat}{n:Nat}(hn:1≤n):0-rdQ (0-iX x n) (n:Int)=(eH x n:Rat) / (n:Rat):=by
 rw[z4s];have e:(((n:Nat):Int):Rat)=((n:Nat):Rat):=rfl;have ek:(((eK x n:Nat):Int):Rat)=((eK x n:Nat):Rat):=rfl;rw[e];have eh:(((eH x n:Nat):Int):Rat)=((eH x n:Nat):Rat):=rfl
 have hf:((0-iX x n)*((n:Nat):Rat)).floor = -((eH x n:Nat):Int):=by
  have em:(0-iX x n)*((n:Nat):Rat) = -(iX x n*((n:Nat):Rat)):=by grind
  rw[em];unfold iX eH
  split
  · rw[lI hn]
    exact nI (by rw[Rat.intCast_neg,ek];exact Rat.le_refl) (by rw[Rat.intCast_neg,ek];grind)
  · rw[lI hn]
    have ek1:(((eK x n+1:Nat):Int):Rat)=((eK x n:Nat):Rat)+1:=by rw[Rat.intCast_natCast,Rat.natCast_add];rfl
    exact nI (by rw[Rat.intCast_neg,ek1];grind) (by rw[Rat.intCast_neg,ek1];grind)
 rw[hf,Rat.intCast_neg,eh];grind
theorem z1i {x y:Rat}{n:Nat}(hx:0≤x)(hxy:x≤y)(hn:1≤n):iX x n≤iX y n:=by
 have hy:0≤y:=by grind
 have hp:=rE hn;have hnn:(0:Rat)≤(n:Rat)*(n:Rat):=Rat.mul_nonneg (dR n) (dR n);have hm:x*((n:Rat)*(n:Rat))≤y*((n:Rat)*(n:Rat)):=Rat.mul_le_mul_of_nonneg_right hxy hnn;have⟨a1,a2⟩:=sN (n:=n) hx;have⟨b1,b2⟩:=sN (n:=n) hy;have hk:eK x n≤eK y n:=z6V hy (by grind);have hkr:=z0J.2 hk;unfold iX
 split
 · split
   · exact ku hp hkr
   · exact ku hp (by grind)
 · rename_i h1
   split
   · rename_i h2
     refine ku hp ?_;have e2:=of_decide_eq_true h2
     have hne:eK x n≠eK y n:=by
        intro he;apply h1
        refine decide_eq_true ?_;rw[he]at a1 ⊢;grind
     have hlt:eK x n+1≤eK y n:=by omega
     have hlr:=z0J.2 hlt;rw[Rat.natCast_add]at hlr;have:((1:Nat):Rat)=1:=rfl;grind
   · exact ku hp (by grind)
theorem z5f {x y:Rat}{n k:Nat}(h0:0≤x)(hxy:x≤y)(hx:SmQ k x)(hy:SmQ k y)(hk:1≤k)(hk2:k≤750)(hn1:1≤n)(hn2:n≤1000000000)(w:World)(hla:La w) :
 CV w 10 #[.agg #[.string (Sq x),.string (Sq y)],.int .i64 (n:Int)] (.tuple #[.agg #[.string (Sq ((eK x n:Rat) / (n:Rat))),.string (Sq ((eH y n:Rat) / (n:Rat)))],.int .i64 0]):=by
 have hn:Sm 10 n:=by
  have h:(1000000000:Nat)<10^10:=by decide
  exact Nat.lt_of_le_of_lt hn2 h
 have hy0:0≤y:=by grind
 have s1:=z0t h0 hx hn hn1 hk;have s2:=z0t hy0 hy hn hn1 hk;have cv:CV w 31 #[.agg #[.string (Sq x),.string (Sq y)]] (.bool true):=fun W hW=>yL x y hxy (hx.fit (by omega)) (hy.fit (by omega)) W (hla.on hW);have cs:=iM hx (by omega) w hla;have c1:=z1a h0 hx hk hk2 hn1 hn2 w hla;have c2:=z1a hy0 hy hk hk2 hn1 hn2 w hla
 have cr:CV w 33 #[.agg #[.string (Sq (iX x n)),.string (Sq (iX y n))],.int .i64 (n:Int)] (.tuple #[.agg #[.string (Sq ((eK x n:Rat) / (n:Rat))),.string (Sq ((eH y n:Rat) / (n:Rat)))],.int .i64 0]):=fun W hW=>by
  have h:=z5F (iX x n) (iX y n) (n:Int) (k:=k+33) (by omega) (z1i h0 hxy hn1) s1 s2 (by omega) (by omega) W (hla.on hW);rw[z5Q hn1,z4S hn1]at h;exact h
 by_cases he:x=y
 · subst he
   exact z3e _ _ _ _ _ _ w cv cs c1 cr (cZ h0) (by omega) (by omega)
 · exact z3f _ _ _ _ _ _ _ _ w cv cs c1 c2 cr (cZ h0) (nU (fun h=>he h.symm)) (by omega) (by omega)
theorem vW {x:Rat}{n k:Nat}(h0:0≤x)(hx:SmQ k x)(hk:1≤k)(hk2:k≤750)(hn1:1≤n)(hn2:n≤1000000000)(w:World)(hla:La w) :
 CV w 8 #[.string (Sq x),.int .i64 (n:Int)] (.tuple #[.agg #[.string (Sq ((eK x n:Rat) / (n:Rat))),.string (Sq ((eH x n:Rat) / (n:Rat)))],.int .i64 0]) :=
 uz _ _ _ _ _ w (fun W hW=>z4c x (hx.fit (by omega)) W (hla.on hW)) (z5f h0 Rat.le_refl hx hx hk hk2 hn1 hn2 w hla)
def Stt (w:World):Prop:=Stb w 0 #[.int .i64 (-1),.int .i64 (-1),.int .i64 2,.int .i64 (-1),.int .i64 0,.int .i64 1,.int .i64 2,.int .i64 1,.int .i64 1] 109
theorem Stt.on {w w':World}(h:Stt w)(hb:Below w.heap.size w w'):Stt w':=Stb.below h hb
theorem sg3 (x y:Rat):cmpQ x 0*cmpQ y 0 = -1∨cmpQ x 0*cmpQ y 0=0∨cmpQ x 0*cmpQ y 0=1:=by
 rcases gV x 0 with⟨_,e⟩|⟨_,e⟩|⟨_,e⟩<;>rcases gV y 0 with⟨_,f⟩|⟨_,f⟩|⟨_,f⟩<;>rw[e,f]<;>decide
theorem z4L (x y:Rat):IntKind.i64.wrap (cmpQ x 0*cmpQ y 0)=cmpQ x 0*cmpQ y 0:=by
 rcases sg3 x y with h|h|h<;>rw[h]<;>decide
theorem ng {x y:Rat}{k:Nat}(hx:SmQ k x)(hy:SmQ k y)(hk:k≤900)(w:World)(hla:La w) :
 CV w 79 #[.agg #[.string (Sq x),.string (Sq y)]] (.int .i64 (cmpQ x 0*cmpQ y 0)) :=
 zq _ _ _ _ _ w (iM hx hk w hla) (iM hy hk w hla) (z4L x y)
theorem ky {x y:Rat}{k:Nat}(hx:SmQ k x)(hy:SmQ k y)(hk:k+k+k≤900)(w:World)(hla:La w) :
 CV w 80 #[.agg #[.string (Sq x),.string (Sq y)]] (.string (Sq (x*x*y))) :=
 uy _ _ _ _ w (gm rfl (hx.fit (by omega)) (hx.fit (by omega)) w hla) (gm rfl ((hx.mul hx).fit (by omega)) (hy.fit (by omega)) w hla)
theorem vcv {x:Rat}{k:Nat}(hx:SmQ k x)(hk:k≤900)(w:World)(hla:La w):CV w 41 #[.string (Sq x)] (.bool true):=fun W hW=>qz x (hx.fit hk) W (hla.on hW)
theorem z5I:Sq (1:Rat)=⟨#[49]⟩:=by decide +kernel
theorem qvn {a:ByteArray}(h:vldQ a.data.toList=false)(ha:a.size≤900)(w:World)(hla:La w):CV w 41 #[.string a] (.bool false):=fun W hW=>z0O a h ha W (hla.on hW)
theorem z4j:Sq (0:Rat)=⟨#[48]⟩:=by decide +kernel
end Go.Proofs.YtikihamjpenboaaGreatDoor
set_option maxRecDepth 100000
set_option maxHeartbeats 20000000
open Go.Lib (hid)
namespace Go.Proofs.YtikihamjpenboaaGreatDoor
open Go.RowKit Go.Gb
abbrev Lb (w:World):Prop:=La w∧Stt w
theorem mF {w w':World}(h:Lb w)(hb:Below w.heap.size w w'):Lb w':=⟨h.1.on hb,h.2.on hb⟩
theorem so20 {q:Rat}(h1:q.num.natAbs<1000)(h2:q.den<1000):SmQ 20 q:=⟨(show Sm 3 _ by unfold Sm;omega).mono (by decide),(show Sm 3 _ by unfold Sm;omega).mono (by decide)⟩
theorem yC {x:Rat}{n s:Nat}(m:Nat)(h:(x*((n:Rat)*(n:Rat))).floor.toNat=m)(h1:s*s≤m)(h2:m<(s+1)*(s+1)):eK x n=s:=by
 unfold eK rk
 rw[h];exact nH h1 h2
theorem z6W {x:Rat}{n s:Nat}(hk:eK x n=s)(h:decide (((s:Nat):Rat)*((s:Nat):Rat)=x*((n:Rat)*(n:Rat)))=false):eH x n=s+1:=by
 unfold eH eX
 rw[hk,h];rfl
theorem z5o {x:Rat}{n s:Nat}(hk:eK x n=s)(h:decide (((s:Nat):Rat)*((s:Nat):Rat)=x*((n:Rat)*(n:Rat)))=true):eH x n=s:=by
 unfold eH eX
 rw[hk,h];rfl
theorem oq_2:Sq (2:Rat)=⟨#[50]⟩:=by decide +kernel
theorem oq_3:Sq (3:Rat)=⟨#[51]⟩:=by decide +kernel
theorem oq_4:Sq (4:Rat)=⟨#[52]⟩:=by decide +kernel
theorem oq_9:Sq (9:Rat)=⟨#[57]⟩:=by decide +kernel
theorem z6N:Sq (16:Rat)=⟨#[49,54]⟩:=by decide +kernel
theorem z5X:Sq (25:Rat)=⟨#[50,53]⟩:=by decide +kernel
theorem z6M:Sq (-2:Rat)=⟨#[45,50]⟩:=by decide +kernel
theorem z4v:Sq (9/4:Rat)=⟨#[57,47,52]⟩:=by decide +kernel
theorem z5W:Sq (3/2:Rat)=⟨#[51,47,50]⟩:=by decide +kernel
theorem e2_k:eK (2:Rat) 10=14:=yC 200 (by decide +kernel) (by decide) (by decide)
theorem e2_h:eH (2:Rat) 10=15:=z6W e2_k (by decide +kernel)
theorem z6k:eK (9/4:Rat) 2=3:=yC 9 (by decide +kernel) (by decide) (by decide)
theorem z6X:eH (9/4:Rat) 2=3:=z5o z6k (by decide +kernel)
theorem e9_k:eK (9:Rat) 10=30:=yC 900 (by decide +kernel) (by decide) (by decide)
theorem e9_h:eH (9:Rat) 10=30:=z5o e9_k (by decide +kernel)
theorem z6l:eK (25:Rat) 7=35:=yC 1225 (by decide +kernel) (by decide) (by decide)
theorem z6Y:eH (25:Rat) 7=35:=z5o z6l (by decide +kernel)
theorem z2X (w:World)(hla:La w):CV w 8 #[.string ⟨#[50]⟩,.int .i64 10] (.tuple #[.agg #[.string ⟨#[55,47,53]⟩,.string ⟨#[51,47,50]⟩],.int .i64 0]):=by
 have h:=vW (x:=2) (n:=10) (k:=20) (by decide +kernel) (so20 (by decide +kernel) (by decide +kernel)) (by decide) (by decide) (by decide) (by decide) w hla;rw[e2_k,e2_h,oq_2,show Sq (((14:Nat):Rat) / ((10:Nat):Rat))=⟨#[55,47,53]⟩from by decide +kernel,show Sq (((15:Nat):Rat) / ((10:Nat):Rat))=⟨#[51,47,50]⟩from by decide +kernel]at h;exact h
theorem z2W (w:World)(hla:La w):CV w 8 #[.string ⟨#[57,47,52]⟩,.int .i64 2] (.tuple #[.agg #[.string ⟨#[51,47,50]⟩,.string ⟨#[51,47,50]⟩],.int .i64 0]):=by
 have h:=vW (x:=(9/4)) (n:=2) (k:=20) (by decide +kernel) (so20 (by decide +kernel) (by decide +kernel)) (by decide) (by decide) (by decide) (by decide) w hla;rw[z6k,z6X,z4v,show Sq (((3:Nat):Rat) / ((2:Nat):Rat))=⟨#[51,47,50]⟩from by decide +kernel]at h;exact h
theorem z2V (w:World)(hla:La w):CV w 8 #[.string ⟨#[50,53]⟩,.int .i64 7] (.tuple #[.agg #[.string ⟨#[53]⟩,.string ⟨#[53]⟩],.int .i64 0]):=by
 have h:=vW (x:=25) (n:=7) (k:=20) (by decide +kernel) (so20 (by decide +kernel) (by decide +kernel)) (by decide) (by decide) (by decide) (by decide) w hla;rw[z6l,z6Y,z5X,show Sq (((35:Nat):Rat) / ((7:Nat):Rat))=⟨#[53]⟩from by decide +kernel]at h;exact h
theorem uA {a u b c:Rat}(ha:SmQ 20 a)(hu:SmQ 20 u)(hb:SmQ 20 b)(hc:SmQ 20 c)(u0:0≤u)(c0:0≤c)(hs:cmpQ a 0*cmpQ u 0=1)(ht:cmpQ b 0*cmpQ c 0 = -1)(w:World)(hl:Lb w) :
 (cmpQ (a*a*u) (b*b*c)=1→CV w 39 #[.agg #[.string (Sq a),.string (Sq u)],.agg #[.string (Sq b),.string (Sq c)]] (.tuple #[.int .i64 1,.int .i64 0])) ∧
 (cmpQ (a*a*u) (b*b*c) = -1→CV w 39 #[.agg #[.string (Sq a),.string (Sq u)],.agg #[.string (Sq b),.string (Sq c)]] (.tuple #[.int .i64 (-1),.int .i64 0])):=by
 obtain⟨hla,hst⟩:=hl;have v1:=vcv ha (by decide) w hla;have v2:=vcv hu (by decide) w hla;have v3:=vcv hb (by decide) w hla;have v4:=vcv hc (by decide) w hla;have g1:=iM hu (by decide) w hla;have g2:=iM hc (by decide) w hla;have t1:=ng ha hu (by decide) w hla;have t2:=ng hb hc (by decide) w hla;have f1:=cZ u0;have f2:=cZ c0;have q1:=ky ha hu (by decide) w hla;have q2:=ky hb hc (by decide) w hla;have qo:=rU (x:=a*a*u) (y:=b*b*c) rfl (((ha.mul ha).mul hu).fit (by decide)) (((hb.mul hb).mul hc).fit (by decide)) w hla;rw[hs]at t1;rw[ht]at t2;refine⟨fun e=>?_,fun e=>?_⟩<;>rw[e]at qo
 · exact z3c _ _ _ _ _ _ _ _ w v1 v2 v3 v4 g1 g2 t1 t2 q1 q2 qo f1 f2 hst
 · exact z3d _ _ _ _ _ _ _ _ w v1 v2 v3 v4 g1 g2 t1 t2 q1 q2 qo f1 f2 hst
theorem z5b (w:World)(hl:Lb w):CV w 12 #[.string ⟨#[51]⟩,.string ⟨#[45,50]⟩,.string ⟨#[50]⟩] (.tuple #[.int .i64 1,.int .i64 0]):=by
 have h:=(uA (a:=3) (u:=1) (b := -2) (c:=2) (so20 (by decide +kernel) (by decide +kernel)) (so20 (by decide +kernel) (by decide +kernel)) (so20 (by decide +kernel) (by decide +kernel)) (so20 (by decide +kernel) (by decide +kernel)) (by decide +kernel) (by decide +kernel) (by decide +kernel) (by decide +kernel) w hl).1 (by decide +kernel);rw[z5I,oq_3,z6M,oq_2]at h;exact z1c _ _ _ _ _ w h
theorem zl (w:World)(hl:Lb w):CV w 13 #[.string ⟨#[50]⟩,.string ⟨#[51]⟩,.string ⟨#[51]⟩,.string ⟨#[50]⟩] (.tuple #[.int .i64 (-1),.int .i64 0]):=by
 have h:=(uA (a:=2) (u:=3) (b := -3) (c:=2) (so20 (by decide +kernel) (by decide +kernel)) (so20 (by decide +kernel) (by decide +kernel)) (so20 (by decide +kernel) (by decide +kernel)) (so20 (by decide +kernel) (by decide +kernel)) (by decide +kernel) (by decide +kernel) (by decide +kernel) (by decide +kernel) w hl).2 (by decide +kernel)
 have h1:CV w 40 #[.string ⟨#[48]⟩,.string (Sq 3)] (.tuple #[.string (Sq (-3)),.int .i64 0]):=fun W hW=>by
  have g:=qSub 0 3 (-3) (by decide +kernel) ((show SmQ 1 (0:Rat) from⟨by unfold Sm;decide,by unfold Sm;decide⟩).fit (by decide)) ((so20 (by decide +kernel) (by decide +kernel)).fit (by decide)) W (hl.1.on hW);rwa [z4j]at g
 rw[oq_2,oq_3]at h;rw[oq_3]at h1;exact uC _ _ _ _ _ _ _ w h1 h
theorem xQ:iC (9 / 4)=3 / 2:=by
 unfold iC
 rw[show((9:Rat) / 4).num.natAbs=9 from by decide +kernel,show((9:Rat) / 4).den=4 from by decide +kernel,nH (n:=9) (s:=3) (by decide) (by decide),nH (n:=4) (s:=2) (by decide) (by decide)];decide +kernel
theorem z2Y (w:World)(hla:La w):CV w 6 #[.string ⟨#[57,47,52]⟩] (.tuple #[.string ⟨#[51,47,50]⟩,.bool true,.int .i64 0]):=by
 have h:=qD (x:=9 / 4) (k:=20) (by decide +kernel) (so20 (by decide +kernel) (by decide +kernel)) (by decide) (by decide) (by rw[xQ];decide +kernel) w hla;rw[xQ,z4v,z5W]at h;exact h
theorem z6L (w:World)(hla:La w):CV w 10 #[.agg #[.string ⟨#[50]⟩,.string ⟨#[57]⟩],.int .i64 10] (.tuple #[.agg #[.string ⟨#[55,47,53]⟩,.string ⟨#[51]⟩],.int .i64 0]):=by
 have h:=z5f (x:=2) (y:=9) (n:=10) (k:=20) (by decide +kernel) (by decide +kernel) (so20 (by decide +kernel) (by decide +kernel)) (so20 (by decide +kernel) (by decide +kernel)) (by decide) (by decide) (by decide) (by decide) w hla;rw[e2_k,e9_h,oq_2,oq_9,show Sq (((14:Nat):Rat) / ((10:Nat):Rat))=⟨#[55,47,53]⟩from by decide +kernel,show Sq (((30:Nat):Rat) / ((10:Nat):Rat))=⟨#[51]⟩from by decide +kernel]at h;exact h
theorem z5c (g:Nat)(w:World)(hla:La w)(k:SBk w g #[.string ⟨#[51]⟩,.string ⟨#[52]⟩] 22):CV w 14 #[.slice (some ⟨g,0,none⟩) 2 2,.int .i64 7] (.tuple #[.agg #[.string ⟨#[53]⟩,.string ⟨#[53]⟩],.int .i64 0]):=by
 have f0:FitQ (0:Rat):=(show SmQ 1 (0:Rat) from⟨by unfold Sm;decide,by unfold Sm;decide⟩).fit (by decide);have f:∀ {q:Rat},q.num.natAbs<1000→q.den<1000→FitQ q:=fun h1 h2=>(so20 h1 h2).fit (by decide);have v3:=vcv (x:=3) (so20 (by decide +kernel) (by decide +kernel)) (by decide) w hla;have v4:=vcv (x:=4) (so20 (by decide +kernel) (by decide +kernel)) (by decide) w hla;have t1:=gm (x:=3) (y:=3) (z:=9) (by decide +kernel) (f (by decide +kernel) (by decide +kernel)) (f (by decide +kernel) (by decide +kernel)) w hla;have p1:=o5 (x:=0) (y:=9) (z:=9) (by decide +kernel) f0 (f (by decide +kernel) (by decide +kernel)) w hla;have t2:=gm (x:=4) (y:=4) (z:=16) (by decide +kernel) (f (by decide +kernel) (by decide +kernel)) (f (by decide +kernel) (by decide +kernel)) w hla;have p2:=o5 (x:=9) (y:=16) (z:=25) (by decide +kernel) (f (by decide +kernel) (by decide +kernel)) (f (by decide +kernel) (by decide +kernel)) w hla;rw[oq_3]at v3 t1;rw[oq_4]at v4 t2;rw[oq_9]at t1 p1 p2;rw[z4j]at p1;rw[z6N]at t2 p2;rw[z5X]at p2;exact zu g _ _ _ _ _ _ _ _ _ _ w v3 t1 p1 v4 t2 p2 (z2V w hla) k
theorem mh  (w₀:World)  (hla:Lb w₀) :
 CV w₀ 4 #[] (.bool true):=by
 intro w hw;have HT:=hid (mF hla hw);clear hla hw;go_enter func4,ntmps4
 have u6:=hid (Below.refl w.heap.size w);go_wp2_with fail
 with_reducible refine((z2X _ (mF HT.o u6.o).1).at).mono ?_
 rintro e W1 ⟨rfl,hb⟩;have w9:=hbt u6 hb;clear hb;go_upto_region 2 with fail
 refine az W1 [(#[.string ⟨#[55,47,53]⟩,.string ⟨#[51,47,50]⟩],24)] rfl ?_;have L1:=w9.o.size;rintro W2 ⟨k1,hb⟩;have hb:Below W1.heap.size W1 W2:=hb;have wo:=hbt w9 hb;have K1:=hid k1;clear k1 hb;go_wp2_with fail
 with_reducible refine((z2W _ (mF HT.o wo.o).1).at).mono ?_
 rintro e W3 ⟨rfl,hb⟩;have K1:=hid (K1.o.below hb);have ww:=hbt wo hb;clear hb;go_upto_region 3 with fail
 refine az W3 [(#[.string ⟨#[51,47,50]⟩,.string ⟨#[51,47,50]⟩],24)] rfl ?_;have L2:=K1.o.lt;have L3:=ww.o.size;rintro W4 ⟨k2,hb⟩;have hb:Below W3.heap.size W3 W4:=hb;have K1:=hid (K1.o.below hb);have si:=hbt ww hb;have K2:=hid k2;clear k2 hb;go_wp2_with fail
 with_reducible refine((z5b _ (mF HT.o si.o)).at).mono ?_
 rintro e W5 ⟨rfl,hb⟩;obtain ⟨K1,K2⟩:=aH hb K1 K2;have sj:=hbt si hb;clear hb;go_wp2_with fail
 with_reducible refine((zl _ (mF HT.o sj.o)).at).mono ?_
 rintro e W6 ⟨rfl,hb⟩;obtain ⟨K1,K2⟩:=aH hb K1 K2;have sw:=hbt sj hb;clear hb;go_wp2_with fail
 with_reducible refine((z2Y _ (mF HT.o sw.o).1).at).mono ?_
 rintro e W7 ⟨rfl,hb⟩;obtain ⟨K1,K2⟩:=aH hb K1 K2;have r9:=hbt sw hb;clear hb;go_wp2_with fail
 with_reducible refine((z6L _ (mF HT.o r9.o).1).at).mono ?_
 rintro e W8 ⟨rfl,hb⟩;obtain ⟨K1,K2⟩:=aH hb K1 K2;have rq:=hbt r9 hb;clear hb;go_upto_region 7 with fail
 refine az W8 [(#[.string ⟨#[55,47,53]⟩,.string ⟨#[51]⟩],24)] rfl ?_;have L4:=K1.o.lt;have L5:=K2.o.lt;have L6:=rq.o.size;rintro W9 ⟨k3,hb⟩;have hb:Below W8.heap.size W8 W9:=hb;obtain ⟨K1,K2⟩:=aH hb K1 K2;have p9:=hbt rq hb;have K3:=hid k3;clear k3 hb;go_wp2_with fail
 have hb:=jO W9 (.cells #[.string ⟨#[51]⟩,.string ⟨#[52]⟩] 22);have k4:=SBk.new W9 #[.string ⟨#[51]⟩,.string ⟨#[52]⟩] 22;generalize W9.alloc (.cells #[.string ⟨#[51]⟩,.string ⟨#[52]⟩] 22)=W10 at *;obtain ⟨K1,K2,K3⟩:=bG hb K1 K2 K3;have ru:=hbt p9 hb;have K4:=hid k4;clear k4 hb;with_reducible refine((z5c _ _ (mF HT.o ru.o).1 K4.o).at).mono ?_
 rintro e W11 ⟨rfl,hb⟩;obtain ⟨K1,K2,K3,K4⟩:=aW hb K1 K2 K3 K4;have rM:=hbt ru hb;clear hb;go_upto_region 8 with fail
 refine az W11 [(#[.string ⟨#[53]⟩,.string ⟨#[53]⟩],24)] rfl ?_;have L7:=K1.o.lt;have L8:=K2.o.lt;have L9:=K3.o.lt;have L10:=K4.o.lt;have L11:=rM.o.size;rintro W12 ⟨k5,hb⟩;have hb:Below W11.heap.size W11 W12:=hb;obtain ⟨K1,K2,K3⟩:=bG hb K1 K2 K3;have pq:=hbt rM hb;have K5:=hid k5;clear k5 hb;obtain ⟨rV,p8⟩:=au K1.o rfl rfl;obtain ⟨pu,ol⟩:=au K2.o rfl rfl;obtain ⟨oM,oV⟩:=au K3.o rfl rfl;obtain ⟨mf,mi⟩:=au K5.o rfl rfl;go_wp2;exact bodyPost_ret (v:=.bool true) (by simp[results,results4,go_sem]) rfl ⟨rfl,pq.o⟩
theorem lgx3 (g:Nat)(a b c:ByteArray)(bb:Bool)(w:World)(hb:decide (40<a.size∨40<b.size∨40<c.size)=bb)(k:SBk w g #[.string a,.string b,.string c] 22) :
 CR 5 #[.slice (some ⟨g,0,none⟩) 3 3] w (.bool bb):=by
 have hc:=(show w.cell? ⟨g,0,none⟩=some (.string a)∧w.cell? ⟨g,1,none⟩=some (.string b)∧w.cell? ⟨g,2,none⟩=some (.string c) from⟨k.cell (i:=0) rfl,k.cell (i:=1) rfl,k.cell (i:=2) rfl⟩)
 cases bb with
 | false =>
   have h:=of_decide_eq_false hb;exact(z3p g a b c w (by omega) (by omega) (by omega) hc).mono (by rintro e w' ⟨rfl,rfl⟩;exact⟨rfl,Below.refl _ _⟩)
 | true=>exact(z1p g a b c w (of_decide_eq_true hb) hc).mono (by rintro e w' ⟨rfl,rfl⟩;exact⟨rfl,Below.refl _ _⟩)
theorem z1t (x:ByteArray)(w₀:World)(h1:CV w₀ 41 #[.string x] (.bool false))  :
 CV w₀ 30 #[.string x] (.tuple #[.agg #[.string ⟨#[]⟩,.string ⟨#[]⟩],.int .i64 1]):=by
 intro w hw;have C1:=Lib.hid (h1.mono hw);clear h1 hw;go_enter func30,ntmps30
 go_upto_region 1 with fail
 refine az w [(#[.string ⟨#[]⟩,.string ⟨#[]⟩],24)] rfl ?_;rintro W0 ⟨k1,hb⟩;have u6:=Lib.hid (show Below w.heap.size w W0 from hb);have K1:=Lib.hid k1;clear k1 hb;go_wp2_with fail
 with_reducible refine(C1.o _ u6.o).mono ?_
 rintro e W1 ⟨rfl,hb⟩;obtain ⟨w9,K1⟩:=aD (u6.o.trans (hb.mono u6.o.size)) (K1.o.below hb);clear hb;obtain ⟨rV,p8⟩:=au K1.o rfl rfl;obtain ⟨l5,l6⟩:=bJ K1.o;go_wp2;exact bodyPost_ret (v:=.tuple #[.agg #[.string ⟨#[]⟩,.string ⟨#[]⟩],.int .i64 1]) (by simp[results,results30,go_sem,rV,p8]) rfl ⟨rfl,(ay (l:=[.string ⟨#[]⟩,.string ⟨#[]⟩]) (i:=0) (by omega) w9.o)⟩
def NuI (k j:Nat) (s:ByteArray):Prop:=j≤k∧(0<j→Lib.decDigits j++s.data.toList=Lib.decDigits k)∧(j=0→s.data.toList=Lib.decDigits k)
theorem NuI.size {k j:Nat}{s:ByteArray}(h:NuI k j s)(hk:k<10^6):s.size≤6:=by
 have hl:=oG 6 k hk (by decide);rw[← aC];rcases Nat.eq_zero_or_pos j with h0|h0
 · rw[h.2.2 h0];exact hl
 · have:=congrArg List.length (h.2.1 h0)
   rw[List.length_append]at this;omega
theorem e_ex {x:Rat}{n:Nat}(hx:0≤x)(hn:1≤n)(h:eX x n=true):eH x n=eK x n∧(eK x n:Rat) / (n:Rat)*((eK x n:Rat) / (n:Rat))=x:=by
 have h1:=(z1J (n:=n) hx).2.2 h;refine⟨h1.1,?_⟩;have hp:=fU hn;have h2:=h1.2;grind
theorem e_ne {x:Rat}{n:Nat}(hx:0≤x)(hn:1≤n)(h:eX x n=false):((eH x n:Nat):Rat)=(eK x n:Rat)+1∧(eK x n:Rat) / (n:Rat)*((eK x n:Rat) / (n:Rat))<x∧x<(eH x n:Rat) / (n:Rat)*((eH x n:Rat) / (n:Rat)):=by
 have h1:=(z1J (n:=n) hx).2.1 h;have hp:=rE hn;have hpp:=Rat.mul_pos hp hp;have hs:∀ a:Rat,(a / (n:Rat))*(a / (n:Rat))*((n:Rat)*(n:Rat))=a*a:=by intro a;grind
 refine⟨h1.1,?_,?_⟩
 · have h2:=h1.2.1
   rw[← hs]at h2;exact(Rat.mul_lt_mul_right hpp).1 h2
 · have h2:=h1.2.2
   rw[← hs (eH x n:Rat)]at h2;exact(Rat.mul_lt_mul_right hpp).1 h2
theorem z6A {x:Rat}{n k:Nat}(h0:0≤x)(hx:SmQ k x)(hn:Sm 10 n)(hk:1≤k):Sm (k+22) (eH x n):=by
 have h:=z0v h0 hx hn hk;unfold eH
 split
 · exact h.mono (by omega)
 · exact h.add ((show Sm 1 1 by unfold Sm;decide).mono (by omega))
open Go.ChangeShapes Go.WideShapes Go.ChangeAt Go.WideMaps Go.WideElems Go.RowKit Go.Gb
open Go.ChangeMaps (open_string shut_string)
theorem zg {H:Type}{enc:TypeId × Value→H}{P:Program}{f:Func}{s:ChangeSpec}{apart fresh handsOn again:Bool}{W W':World}{args:Array Value}{v:Value}{ds gs:List (DataW H)}
 (hW:DataW.Whole enc P f.params.toList s.vars apart W args.toList ds gs [])
 (hres:∀ (b:Nat) (sp:Nat→Bool) (hd:Bool),DataW.TrodAll enc P W' b sp hd f.resultTypes.toList (v.resultList f.resultTypes.size) (s.fn H (ds++gs)).results [])
 (hargs:∀ sp:Nat→Bool,DataW.TrodAll enc P W' 0 sp true f.params.toList args.toList (s.fn H (ds++gs)).args [])
 (hvars:∀ sp:Nat→Bool,DataW.TrodVars enc P W' sp s.vars (s.fn H (ds++gs)).vars [])
 (hk:W.keptBut W' (fun _=>False))
 (hok:∀ (j:Nat) (t:TypeId) (r:Value),f.resultTypes[j]? = some t→(v.resultList f.resultTypes.size)[j]? = some r→Value.okWide P W' .any 0 t r) :
 s.post enc P f apart fresh handsOn again W args v W':=by
 refine⟨ds,gs,[],[],[],[],hW,hres _ _ _,hargs _,hvars _,World.keptBut_mono (fun p hp=>hp.elim) hk,fun _=>?_⟩;refine⟨hok,_,_,([]++[])++[],⟨[]++[],[],trodAll_append (hargs _) (hres _ _ _),hvars _,rfl,?_,?_⟩,?_⟩
 · intro b off hp
   simp at hp
 · intro ha
   simp
 · intro p hp _
   simp at hp
end Go.Proofs.YtikihamjpenboaaGreatDoor
namespace Go.Proofs.YtikihamjpenboaaGreatDoor
open Go.ChangeShapes Go.WideShapes Go.ChangeAt Go.WideMaps Go.WideElems Go.RowKit Go.Gb Go.Joins
open Go.ChangeMaps (open_string shut_string)
theorem z5d {H:Type}{enc:TypeId × Value→H}{W:World}{base b0:Nat}{spare:Nat→Bool}{held:Bool}{r:Reach}{v:Value}{d:DataW H}{p:List MemPlace}
 (hv:Value.okWide Tryz.prog W r b0 24 v) (h:DataW.Trod enc Tryz.prog W base spare held 24 v d p) :
 ∃ l u:ByteArray,v=.agg #[.string l,.string u]∧d=.agg [.lit (.string l.data.toList),.lit (.string u.data.toList)]∧p=[]∧l.size≤maxLen∧u.size≤maxLen:=by
 obtain⟨c0,c1,y0,y1,m,rfl,rfl,rfl,hy0,hy1⟩:=open_agg2 underlying24 (by kernel_rfl) (by kernel_rfl) hv h;obtain⟨l,e0,rfl,wl⟩:=DataW.trod_string underlying22 hy0;obtain⟨u,e1,rfl,wu⟩:=DataW.trod_string underlying22 hy1;simp at e0 e1
 subst e0 e1;exact⟨l,u,rfl,rfl,rfl,wl,wu⟩
theorem z4K {H:Type}{enc:TypeId × Value→H}{W:World}{base:Nat}{spare:Nat→Bool}{held:Bool}{l u:ByteArray}(hl:l.size≤maxLen)(hu:u.size≤maxLen) :
 DataW.Trod enc Tryz.prog W base spare held 24 (.agg #[.string l,.string u]) (.agg [.lit (.string l.data.toList),.lit (.string u.data.toList)]) [] :=
 shut_agg2 (y0:=(.lit (.string l.data.toList),[])) (y1:=(.lit (.string u.data.toList),[])) underlying24 (by kernel_rfl) (by kernel_rfl) ⟨1,by simp[DataW.trod,underlying22,hl]⟩ ⟨1,by simp[DataW.trod,underlying22,hu]⟩
end Go.Proofs.YtikihamjpenboaaGreatDoor
namespace Go.Proofs.YtikihamjpenboaaGreatDoor
open Go.ChangeShapes Go.WideShapes Go.ChangeAt Go.WideMaps Go.WideElems Go.RowKit Go.Gb
theorem gSet:Tryz.prog.globalNamed "garboard/root.settled" = some 0:=by kernel_rfl
theorem z3t:(Tryz.prog.globals[0]?).map (·.type)=some 109:=by kernel_rfl
def jJ:List (String × DataW Unit):=[("math/bits.deBruijn32tab",Rows.laid_math_bits_deBruijn32tab),("math/bits.deBruijn64tab",Rows.laid_math_bits_deBruijn64tab),("internal/strconv.uint64pow10",Rows.laid_internal_strconv_uint64pow10),("strconv.ErrRange",Rows.laid_strconv_ErrRange),("strconv.ErrSyntax",Rows.laid_strconv_ErrSyntax),("garboard/integer.zero",Rows.laid_garboard_integer_zero),("garboard/root.settled",Rows.laid_garboard_root_settled)]
theorem wE {W:World}(h:laidMetH Tryz.prog jJ W):Lb W:=by
 rw[MakeChecks.laidMetH_plain _ _ _ (by kernel_rfl)]at h;obtain⟨ps,⟨g0,t0,cs0,f0,p0,q0,hg0,ht0,hv0,hd0,⟨g1,t1,cs1,f1,p1,q1,hg1,ht1,hv1,hd1,⟨g2,t2,cs2,f2,p2,q2,hg2,ht2,hv2,hd2,⟨g3,t3,cs3,f3,p3,q3,hg3,ht3,hv3,hd3,⟨g4,t4,cs4,f4,p4,q4,hg4,ht4,hv4,hd4,⟨g5,t5,cs5,f5,p5,q5,hg5,ht5,hv5,hd5,⟨g6,t6,cs6,f6,p6,q6,hg6,ht6,hv6,hd6,_,_⟩,_⟩,_⟩,_⟩,_⟩,_⟩,_⟩,_,_⟩:=h;obtain rfl:=Option.some.inj (gTab.symm.trans hg2);obtain rfl:=Option.some.inj (z3s.symm.trans ht2);obtain rfl:=Option.some.inj (z5l.symm.trans hg5);obtain rfl:=Option.some.inj (z1y.symm.trans ht5);obtain rfl:=Option.some.inj (gSet.symm.trans hg6);obtain rfl:=Option.some.inj (z3t.symm.trans ht6);refine⟨⟨?_,?_⟩,?_⟩
 · unfold Tb Lib.TabIs
   rw[hv2];congr 1
   apply Array.ext'
   rw[Lib.cells_of_tab (k:=.u64) (zs:=Lib.pow10Tab) underlying222 underlying95 z3O z3P hd2]
 · obtain⟨k0,k1,hu,e0,o0,e1,o1⟩:∃ k0 k1:Field,Tryz.prog.underlying 142=some (.struct #[k0,k1])∧k0.type=3∧k0.offset=0∧k1.type=9∧k1.offset=1:=⟨_,_,underlying142,rfl,rfl,rfl,rfl⟩
   obtain⟨y0,y1,n,hx,hlen,h0,h1⟩:=trod_struct2 hu hd5;rw[e0,o0]at h0;rw[e1,o1]at h1;obtain⟨m,hc0,hy0,_⟩:=DataW.trod_int underlying3 h0;obtain⟨s,hc1,hy1,_⟩:=DataW.trod_string underlying9 h1;subst hy0 hy1;have hc:Tryz.prog.cellsOf 142=2:=by kernel_rfl
   have hci:Tryz.prog.cellsOf 3=1:=by kernel_rfl
   have hcs:Tryz.prog.cellsOf 9=1:=by kernel_rfl
   rw[hc]at hlen;rw[hci]at hc0;rw[hcs]at hc1
   have hd:m=0∧s.data.toList=[48]:=by
    have:=congrArg Prod.fst hx;simpa [Rows.laid_garboard_integer_zero,eq_comm] using this
   obtain⟨rfl,hs⟩:=hd
   have hs':s=⟨#[48]⟩:=by
    cases s with
    | mk d=>exact congrArg ByteArray.mk (Array.ext' hs)
   subst hs'
   have hl:cs5.toList=[.int .i64 0,.string ⟨#[48]⟩]:=by
    match hcs5:cs5.toList,hlen with
    | [a,b],_ =>
      rw[hcs5]at hc0 hc1;simp at hc0 hc1
      rw[hc0,hc1]
   have g0':=World.var?_cell z5l hv5 0;have g1':=World.var?_cell z5l hv5 1;have ha:cs5=#[.int .i64 0,.string ⟨#[48]⟩]:=Array.ext' hl;rw[ha]at g0' g1';have c0:W.cell? ⟨1,0,none⟩=some (.int .i64 0):=by simpa using g0'
   have c1:W.cell? ⟨1,1,none⟩=some (.string ⟨#[48]⟩):=by simpa using g1'
   exact⟨World.block_lt_of_cell? W _ c0,c0,c1⟩
 · obtain⟨xs,m,_,hx,hlen,hl,hel⟩:=DataW.trod_array underlying109 hd6
   have hc9:Tryz.prog.cellsOf 109=9:=by kernel_rfl
   have hc3:Tryz.prog.cellsOf 108=3:=by kernel_rfl
   have hc1:Tryz.prog.cellsOf 3=1:=by kernel_rfl
   rw[hc9]at hlen;rw[hc3]at hel
   have hd:xs.map (·.1)=[.agg [.lit (.int .i64 (-1)),.lit (.int .i64 (-1)),.lit (.int .i64 2)],.agg [.lit (.int .i64 (-1)),.lit (.int .i64 0),.lit (.int .i64 1)],.agg [.lit (.int .i64 2),.lit (.int .i64 1),.lit (.int .i64 1)]]:=by
    have:=congrArg Prod.fst hx;simpa [Rows.laid_garboard_root_settled,eq_comm] using this
   have k0:=hel 0 (by decide);have k1:=hel 1 (by decide);have k2:=hel 2 (by decide);clear hel hx
   match xs,hl,hd with
   | [(r0,p0),(r1,p1),(r2,p2)],_,hd =>
     simp only[List.map_cons,List.map_nil,List.cons.injEq,and_true]at hd;obtain⟨e0,e1,e2⟩:=hd;subst e0 e1 e2;have c0:=Lib.cells_of_tab (k:=.i64) (zs:=[-1,-1,2]) underlying108 underlying3 hc1 hc3 k0;have c1:=Lib.cells_of_tab (k:=.i64) (zs:=[-1,0,1]) underlying108 underlying3 hc1 hc3 k1;have c2:=Lib.cells_of_tab (k:=.i64) (zs:=[2,1,1]) underlying108 underlying3 hc1 hc3 k2
     have hcs:cs6.toList=[.int .i64 (-1),.int .i64 (-1),.int .i64 2,.int .i64 (-1),.int .i64 0,.int .i64 1,.int .i64 2,.int .i64 1,.int .i64 1]:=by
       have e:cs6.toList=(cs6.toList.drop (0*3)).take 3++((cs6.toList.drop (1*3)).take 3++(cs6.toList.drop (2*3)).take 3):=by
        match cs6.toList,hlen with
        | [_,_,_,_,_,_,_,_,_],_=>rfl
       rw[e,c0,c1,c2];rfl
     have ha:cs6=#[.int .i64 (-1),.int .i64 (-1),.int .i64 2,.int .i64 (-1),.int .i64 0,.int .i64 1,.int .i64 2,.int .i64 1,.int .i64 1]:=Array.ext' hcs
     have hcell:∀ i v,(#[.int .i64 (-1),.int .i64 (-1),.int .i64 2,.int .i64 (-1),.int .i64 0,.int .i64 1,.int .i64 2,.int .i64 1,.int .i64 1]:Array Value)[i]? = some v→W.cell? ⟨0,i,none⟩=some v:=fun i v hv=>by
       have g:=World.var?_cell gSet hv6 i;rw[ha]at g;exact g.trans hv
     exact⟨World.block_lt_of_cell? W _ (hcell 0 _ rfl),hcell⟩
theorem z1M (os:Os)(args:Array Value):laidMetH Tryz.prog jJ ((World.doorLaid Tryz.prog 4000 os).forCall (fun _ _=>0) ⟨#[],args,[]⟩).memory:=by
 rw[MakeChecks.laidMetH_plain _ _ _ (by kernel_rfl)];exact laidMet_of_run' 8 (by kernel_rfl) (by kernel_rfl)
theorem uI {x:Int}(h:(Lit.int .i64 x).wf=true) : -9223372036854775808≤x∧x≤9223372036854775807:=by
 have h1:IntKind.i64.min≤x∧x≤IntKind.i64.max:=by simpa [Lit.wf] using h
 exact⟨Int.le_trans (show(-9223372036854775808:Int)≤IntKind.i64.min by decide) h1.1,Int.le_trans h1.2 (show IntKind.i64.max≤9223372036854775807 by decide)⟩
