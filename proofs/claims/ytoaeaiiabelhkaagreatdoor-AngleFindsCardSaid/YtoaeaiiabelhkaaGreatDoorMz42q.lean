/- texts -/
import Derived.Test.YtoaeaiiabelhkaaGreatDoorMz22q
import Derived.Test.YtoaeaiiabelhkaaGreatDoorMz41q
namespace Go.Proofs.YtoaeaiiabelhkaaGreatDoor
open Go.RowKit Go.Gb
theorem iH {x y z:Rat}(h:x+y=z)(hx:aO x)(hy:aO y)(w:World)(hla:La w):CV w 33 #[.string (Sq x),.string (Sq y)] (.string (Sq z)) :=
 z1Y _ _ _ 0 w (fun W hW=>qAdd x y z h hx hy W (hla.on hW))
theorem jg {x y z:Rat}(h:x-y=z)(hx:aO x)(hy:aO y)(w:World)(hla:La w):CV w 32 #[.string (Sq x),.string (Sq y)] (.string (Sq z)) :=
 zT _ _ _ 0 w (fun W hW=>qSub x y z h hx hy W (hla.on hW))
theorem fI {x y z:Rat}(h:x*y=z)(hx:aO x)(hy:aO y)(w:World)(hla:La w):CV w 30 #[.string (Sq x),.string (Sq y)] (.string (Sq z)) :=
 zP _ _ _ 0 w (fun W hW=>qMul x y z h hx hy W (hla.on hW))
theorem oz {x y z:Rat}(h:x / y=z)(hx:aO x)(hy:aO y)(h0:y≠0)(w:World)(hla:La w):CV w 31 #[.string (Sq x),.string (Sq y)] (.string (Sq z)) :=
 z1Z _ _ _ 0 w (fun W hW=>qDiv x y z h hx hy h0 W (hla.on hW))
theorem gz {x y:Rat}{c:Int}(h:cmpQ x y=c)(hx:aO x)(hy:aO y)(w:World)(hla:La w):CV w 40 #[.string (Sq x),.string (Sq y)] (.int .i64 c) :=
 zS _ _ _ 0 w (fun W hW=>ru x y c h hx hy W (hla.on hW))
theorem su1:SmQ 1 (1:Rat):=⟨by unfold Sm;decide,by unfold Sm;decide⟩
theorem su0:SmQ 1 (0:Rat):=⟨by unfold Sm;decide,by unfold Sm;decide⟩
theorem su2:SmQ 1 (2:Rat):=⟨by unfold Sm;decide,by unfold Sm;decide⟩
theorem sun:SmQ 1 (-1:Rat):=⟨by unfold Sm;decide,by unfold Sm;decide⟩
theorem uq1:Sq (1:Rat)=⟨#[49]⟩:=by decide +kernel
theorem uq0:Sq (0:Rat)=⟨#[48]⟩:=by decide +kernel
theorem uq2:Sq (2:Rat)=⟨#[50]⟩:=by decide +kernel
theorem uqn:Sq (-1:Rat)=⟨#[45,49]⟩:=by decide +kernel
theorem avcv {x:Rat}(hx:aO x)(w:World)(hla:La w):CV w 16 #[.string (Sq x)] (.bool true):=fun W hW=>jL x hx W (hla.on hW)
theorem avno {a:ByteArray}(h:vldQ a.data.toList=false)(ha:a.size≤900)(w:World)(hla:La w):CV w 16 #[.string a] (.bool false):=fun W hW=>z0T a h ha W (hla.on hW)
theorem jh {t:Rat}{r:Bool}(hr:decide (-1≤t∧t≤1)=r)(ht:aO t)(w:World)(hla:La w):CV w 15 #[.string (Sq t)] (.bool r):=by
 have h:CV w 13 #[.agg #[.string (Sq (-1:Rat)),.string (Sq (1:Rat))],.string (Sq t)] (.bool r):=fun W hW=>xHas (-1) 1 t r hr (by decide +kernel) (sun.fit (by decide)) (su1.fit (by decide)) ht W (hla.on hW);rw[uqn,uq1]at h;exact zO _ _ w h
theorem ni {t:Rat}(h : -1≤t∧t≤1)(ht:aO t)(w:World)(hla:La w):Ck1 w (Sq t) 0:=fun g W hW k=>(z5K g _ W ((avcv ht w hla).mono hW) ((jh (decide_eq_true h) ht w hla).mono hW) k).at
theorem yK {s t:Rat}(h1 : -1≤s∧s≤1)(h : -1≤t∧t≤1)(hs:aO s)(ht:aO t)(w:World)(hla:La w):Ck2 w (Sq s) (Sq t) 0:=fun g W hW k=>(z5J g _ _ W ((avcv hs w hla).mono hW) ((avcv ht w hla).mono hW) ((jh (decide_eq_true h1) hs w hla).mono hW) ((jh (decide_eq_true h) ht w hla).mono hW) k).at
theorem z6I {t:Rat}{k:Nat}(ht:SmQ k t)(hk:k≤200)(h : -1≤t∧t≤1)(w:World)(hla:La w):CV w 7 #[.string (Sq t)] (.tuple #[.string (Sq (cosQ t)),.int .i64 0]):=by
 have q:=ht.mul ht;have a:=su1.sub q;have b:=su1.add q;have h2:=jg (x:=1) (y:=t*t) rfl (su1.fit (by decide)) (q.fit (by omega)) w hla;have h3:=iH (x:=1) (y:=t*t) rfl (su1.fit (by decide)) (q.fit (by omega)) w hla;rw[uq1]at h2 h3;exact z3S _ _ _ _ _ w (fI rfl (ht.fit (by omega)) (ht.fit (by omega)) w hla) h2 h3 (oz rfl (a.fit (by omega)) (b.fit (by omega)) (z4g t) w hla) (ni h (ht.fit (by omega)) w hla)
theorem z6G {t:Rat}{k:Nat}(ht:SmQ k t)(hk:k≤200)(h : -1≤t∧t≤1)(w:World)(hla:La w):CV w 8 #[.string (Sq t)] (.tuple #[.string (Sq (sinQ t)),.int .i64 0]):=by
 have q:=ht.mul ht;have a:=su2.mul ht;have b:=su1.add q;have h1:=fI (x:=2) (y:=t) rfl (su2.fit (by decide)) (ht.fit (by omega)) w hla;have h3:=iH (x:=1) (y:=t*t) rfl (su1.fit (by decide)) (q.fit (by omega)) w hla;rw[uq1]at h3;rw[uq2]at h1;exact z3N _ _ _ _ _ w h1 (fI rfl (ht.fit (by omega)) (ht.fit (by omega)) w hla) h3 (oz rfl (a.fit (by omega)) (b.fit (by omega)) (z4g t) w hla) (ni h (ht.fit (by omega)) w hla)
theorem z4n {s t:Rat}{k l:Nat}(hs:SmQ k s)(ht:SmQ l t)(h:1-s*t≠0):SmQ (k+l+1+(k+l+2)) (sumQ s t) :=
 (hs.add ht).div ((su1.sub (hs.mul ht)).mono (show 1+(k+l)+1≤k+l+2 by omega)) h
theorem z6F {s t:Rat}{k l:Nat}(hs:SmQ k s)(ht:SmQ l t)(hk:k+l≤400)(h1 : -1≤s∧s≤1)(h2 : -1≤t∧t≤1)(h0:1-s*t≠0)(h3 : -1≤sumQ s t∧sumQ s t≤1)(w:World)(hla:La w) :
 CV w 9 #[.string (Sq s),.string (Sq t)] (.tuple #[.string (Sq (sumQ s t)),.int .i64 0]):=by
 have p:=hs.mul ht;have m:=su1.sub p;have e3:=jg (x:=1) (y:=s*t) rfl (su1.fit (by decide)) (p.fit (by omega)) w hla;rw[uq1]at e3;exact z3L _ _ _ _ _ _ w (iH rfl (hs.fit (by omega)) (ht.fit (by omega)) w hla) (fI rfl (hs.fit (by omega)) (ht.fit (by omega)) w hla) e3 (fun W hW=>qDiv (s+t) (1-s*t) (sumQ s t) rfl ((hs.add ht).fit (by omega)) (m.fit (by omega)) h0 W (hla.on hW)) (jh (decide_eq_true h3) ((z4n hs ht h0).fit (by omega)) w hla) (yK h1 h2 (hs.fit (by omega)) (ht.fit (by omega)) w hla)
theorem zZ {s t:Rat}{k l:Nat}(hs:SmQ k s)(ht:SmQ l t)(hk:k+l≤400)(h1 : -1≤s∧s≤1)(h2 : -1≤t∧t≤1)(h3:¬ (1-s*t≠0∧(-1≤sumQ s t∧sumQ s t≤1)))(w:World)(hla:La w) :
 CV w 9 #[.string (Sq s),.string (Sq t)] (.tuple #[.string ⟨#[]⟩,.int .i64 15]):=by
 have p:=hs.mul ht;have m:=su1.sub p;have e3:=jg (x:=1) (y:=s*t) rfl (su1.fit (by decide)) (p.fit (by omega)) w hla;rw[uq1]at e3;have e1:=iH (x:=s) (y:=t) rfl (hs.fit (by omega)) (ht.fit (by omega)) w hla;have e2:=fI (x:=s) (y:=t) rfl (hs.fit (by omega)) (ht.fit (by omega)) w hla;have kc:=yK h1 h2 (hs.fit (by omega)) (ht.fit (by omega)) w hla;by_cases h0:1-s*t=0
 · rw[h0,uq0]at e3
   exact z1W _ _ _ _ _ w e1 e2 e3 (fun W hW=>z0V (s+t) ((hs.add ht).fit (by omega)) W (hla.on hW)) kc
 · have h4:¬ (-1≤sumQ s t∧sumQ s t≤1):=fun h=>h3 ⟨h0,h⟩
   exact zQ _ _ _ _ _ _ w e1 e2 e3 (fun W hW=>qDiv (s+t) (1-s*t) (sumQ s t) rfl ((hs.add ht).fit (by omega)) (m.fit (by omega)) h0 W (hla.on hW)) (jh (decide_eq_false h4) ((z4n hs ht h0).fit (by omega)) w hla) kc
theorem unat (n:Nat):Sz (n:Int)=Sq ((n:Nat):Rat):=(xJ (n:Int)).symm
theorem vw {k n:Nat}(h:Sm k n)(hk:1≤k):SmQ k ((n:Nat):Rat) :=
 ⟨(show Sm k (((n:Nat):Rat)).num.natAbs from by simpa using h),(show Sm k (((n:Nat):Rat)).den from by
   have:(((n:Nat):Rat)).den=1:=rfl;rw[this]
   exact(show Sm 1 1 by unfold Sm;decide).mono hk)⟩
theorem uh (i:Nat):((2*i+1:Nat):Rat)≠0:=by
 intro h;have:=Rat.natCast_eq_zero_iff.1 h;omega
theorem xL {x:Rat}{k:Nat}(hx:SmQ k x):∀ i,SmQ (k+(k+k)*i) (powU x i)
 | 0=>hx
 | i+1=>by
   have h:=(xL hx i).mul (hx.mul hx).neg
   have e:powU x (i+1)=powU x i * -(x*x):=by
    show powU x i*(0-x*x)=_
    rw[show(0:Rat)-x*x = -(x*x) from by grind]
   rw[e];exact h.mono (by rw[Nat.mul_add];omega)
theorem z0C {x:Rat}{k c i:Nat}(hx:SmQ k x)(hi:i<c)(hc:c≤1000):SmQ (k+(k+k)*c+4) (iK x i):=by
 have h:=(xL hx i).mono (show k+(k+k)*i≤k+(k+k)*c from Nat.add_le_add_left (Nat.mul_le_mul_left _ (Nat.le_of_lt hi)) _);have ho:Sm 4 (2*i+1):=by unfold Sm;omega
 exact h.div (vw ho (by decide)) (uh i)
def sumP (x:Rat) {c:Nat} (l:List {i:Nat // i<c}):Rat:=(l.map (·.1)).foldl (fun a i=>a+iK x i) 0
theorem z0r (x:Rat){c:Nat}(l:List {i:Nat // i<c})(y:{i:Nat // i<c}):sumP x (l++[y])=sumP x l+iK x y.1:=by simp[sumP]
theorem lQ (x:Rat):∀ n,(List.range n).foldl (fun a i=>a+iK x i) 0=serU x n
 | 0=>rfl
 | n+1=>by rw[List.range_succ,List.foldl_append,lQ x n];rfl
theorem z4X {x:Rat}{c K:Nat}(hK:∀ i,i<c→SmQ K (iK x i))(l:List {i:Nat // i<c}):SmQ (l.length*(K+1)+1) (sumP x l):=by
 have gen:∀ (l:List {i:Nat // i<c}) (a:Rat) (m:Nat),SmQ m a→SmQ (m+l.length*(K+1)) ((l.map (·.1)).foldl (fun a i=>a+iK x i) a):=by
  intro l
  induction l with
  | nil=>intro a m h;simpa using h
  | cons y l ih =>
    intro a m h;have:=ih (a+iK x y.1) (m+K+1) (h.add (hK y.1 y.2));refine SmQ.mono this ?_;rw[List.length_cons,Nat.add_mul];omega
 exact(gen l 0 1 su0).mono (by omega)
def serI (x:Rat) (n:Nat):Rat × Rat:=exOf (row4 (serU x n) (serU x n) (serU x (n+1)) (serU x (n+1))) 3
theorem xK {x:Rat}{K:Nat}(n:Nat)(hK:∀ i,i<n→SmQ K (iK x i)):SmQ (n*(K+1)+1) (serU x n):=by
 induction n with
 | zero=>exact su0.mono (by omega)
 | succ n ih =>
   have:=(ih (fun i hi=>hK i (by omega))).add (hK n (by omega));exact this.mono (by rw[Nat.add_mul];omega)
theorem mq {x:Rat}(hx:aO x)(w:World)(hla:La w):CV w 83 #[.string (Sq x)] (.agg #[.string (Sq x),.string (Sq x)]) :=
 uQ _ _ _ 0 w (fun W hW=>z6a x hx W (hla.on hW))
theorem fP {x:Rat}{k n:Nat}(hx:SmQ k x)(hn:n≤24)(hk:(n+1)*(k+(k+k)*(n+1)+4+1)+1≤900)(w:World)(hla:La w) :
 CV w 41 #[.string (Sq x),.int .i64 (n:Int)] (.agg #[.string (Sq (serI x n).1),.string (Sq (serI x n).2)]):=by
 obtain⟨K,eK⟩:∃ K,k+(k+k)*(n+1)+4=K:=⟨_,rfl⟩;have hK:∀ i,i<n+1→SmQ K (iK x i):=fun i hi=>eK▸z0C hx hi (by omega);rw[eK]at hk;have hk1:K+1≤(n+1)*(K+1):=Nat.le_mul_of_pos_left _ (by omega);have hkK:K≤900:=by omega
 have hk2:k≤K:=by omega
 have hkk:k+k≤K:=by rw[← eK,Nat.mul_add];omega
 have hx9:aO x:=hx.fit (by omega);have hq:=hx.mul hx;have h1:=fI (x:=x) (y:=x) rfl hx9 hx9 w hla;have h2:=jg (x:=0) (y:=x*x) rfl (su0.fit (by decide)) (hq.fit (by omega)) w hla;rw[uq0]at h2
 have hpw:∀ i,i<n+1→SmQ K (powU x i):=fun i hi=>(xL hx i).mono (by
  rw[← eK];have:=Nat.mul_le_mul_left (k+k) (Nat.le_of_lt hi)
  omega)
 have hlen:∀ m,m≤n+1→m*(K+1)+1≤900:=fun m hm=>by
  have:=Nat.mul_le_mul_right (K+1) hm;omega
 have hsb:=(xK n (fun i hi=>hK i (by omega))).fit (hlen n (by omega));have hss:=(xK (n+1) hK).fit (hlen (n+1) (by omega));refine zg (Sq x) _ _ (fun i=>Sq (powU x i)) (fun i=>Sq (iK x i)) (fun i=>Sq ((2*i+1:Nat):Rat)) (n+1) (n:Int) (fun l=>Sq (sumP x l)) (Sq (serU x n)) (Sq (serU x (n+1))) _ _ (by omega) (by omega) w h1 h2 rfl ?_ ?_ ?_ uq0 ?_ ?_ (mq hsb w hla) (mq hss w hla) ?_
 · intro i hi W hW
   have h:=z7j (2*(i:Int)+1) (by omega) (by omega) W (hla.on hW);rw[show 2*(i:Int)+1=((2*i+1:Nat):Int) by omega]at h ⊢;rwa [unat]at h
 · intro i hi
   have ho:Sm 4 (2*i+1):=by unfold Sm;omega
   exact oz rfl ((hpw i hi).fit hkK) ((vw ho (by decide)).fit (by decide)) (uh i) w hla
 · intro i hi
   refine fI rfl ((hpw i hi).fit hkK) ?_ w hla;rw[show(0:Rat)-x*x = -(x*x) from by grind];exact hq.neg.fit (by omega)
 · intro pre y hp
   have hl:=hlen pre.length (by omega);exact iH (z0r x pre y).symm ((z4X hK pre).fit hl) ((hK y.1 y.2).fit hkK) w hla
 · intro ys hys
   constructor
   · have e:(ys.dropLast).map (·.1)=List.range n:=by
        rw[List.map_dropLast,hys,List.range_succ,List.dropLast_concat]
     show Sq (sumP x ys.dropLast)=_
     rw[sumP,e,lQ]
   · show Sq (sumP x ys)=_
     rw[sumP,hys,lQ]
 · intro g W hW k4
   have h:=z3h g 2 2 (row4 (serU x n) (serU x n) (serU x (n+1)) (serU x (n+1))) (by decide) (by decide) (by decide) W (hla.on hW) k4.lt
    (fun i hi=>match i,hi with
        | 0,_=>hsb
        | 1,_=>hsb
        | 2,_=>hss
        | 3,_=>hss)
    (fun i hi=>match i,hi with
        | 0,_=>Rat.le_refl
        | 1,_=>Rat.le_refl)
    (fun i hi=>match i,hi with
        | 0,_=>k4.cell (i:=0) rfl
        | 1,_=>k4.cell (i:=1) rfl
        | 2,_=>k4.cell (i:=2) rfl
        | 3,_=>k4.cell (i:=3) rfl)
   exact h
def mulI (x:Rat) (p:Rat × Rat):Rat × Rat:=exOf (row4 (x*p.1) (x*p.2) (x*p.1) (x*p.2)) 3
def subI (p q:Rat × Rat):Rat × Rat:=(p.1-q.2,p.2-q.1)
def piI (n:Nat):Rat × Rat:=subI (mulI 16 (serI (1 / 5) n)) (mulI 4 (serI (1 / 239) n))
def atI (n:Nat) (x:Rat):Rat × Rat:=if x≤1 / 2 then serI x n else subI (mulI (1 / 4) (piI n)) (serI ((1-x) / (1+x)) n)
def divI (p q:Rat × Rat):Rat × Rat:=exOf (row4 (p.1 / q.1) (p.1 / q.2) (p.2 / q.1) (p.2 / q.2)) 3
def degI (n:Nat) (x:Rat):Rat × Rat:=divI (mulI 360 (atI n x)) (piI n)
theorem jw (x:Rat)(n:Nat):(serI x n).1≤(serI x n).2:=iT _ 3
theorem gP (x:Rat)(p:Rat × Rat):(mulI x p).1≤(mulI x p).2:=iT _ 3
theorem z0u {p q:Rat × Rat}(hp:p.1≤p.2)(hq:q.1≤q.2):(subI p q).1≤(subI p q).2:=by
 unfold subI
 grind
theorem nM (n:Nat):(piI n).1≤(piI n).2:=z0u (gP _ _) (gP _ _)
theorem qo (n:Nat)(x:Rat):(atI n x).1≤(atI n x).2:=by
 unfold atI
 split
 · exact jw _ _
 · exact z0u (gP _ _) (jw _ _)
theorem tH {k:Nat}{a b c d:Rat}(ha:SmQ k a)(hb:SmQ k b)(hc:SmQ k c)(hd:SmQ k d):SmQ k (exOf (row4 a b c d) 3).1∧SmQ k (exOf (row4 a b c d) 3).2:=by
 have h:=xR a b c d;constructor
 · rcases h.1 with e|e|e|e<;>rw[e]<;>assumption
 · rcases h.2 with e|e|e|e<;>rw[e]<;>assumption
theorem kg {x:Rat}{k n:Nat}(hx:SmQ k x)(hn:n≤24):SmQ ((n+1)*(k+(k+k)*(n+1)+4+1)+1) (serI x n).1∧SmQ ((n+1)*(k+(k+k)*(n+1)+4+1)+1) (serI x n).2:=by
 have hK:∀ i,i<n+1→SmQ (k+(k+k)*(n+1)+4) (iK x i):=fun i hi=>z0C hx hi (by omega);have h1:=(xK n (fun i hi=>hK i (by omega))).mono (show n*(k+(k+k)*(n+1)+4+1)+1≤(n+1)*(k+(k+k)*(n+1)+4+1)+1 from Nat.add_le_add_right (Nat.mul_le_mul_right _ (by omega)) _);have h2:=xK (n+1) hK;exact tH h1 h1 h2 h2
theorem dJ {x:Rat}{p:Rat × Rat}{k l:Nat}(hx:SmQ k x)(h1:SmQ l p.1)(h2:SmQ l p.2):SmQ (k+l) (mulI x p).1∧SmQ (k+l) (mulI x p).2:=tH (hx.mul h1) (hx.mul h2) (hx.mul h1) (hx.mul h2)
theorem s5:SmQ 1 ((1:Rat) / 5):=⟨by unfold Sm;decide +kernel,by unfold Sm;decide +kernel⟩
theorem s239:SmQ 3 ((1:Rat) / 239):=⟨by unfold Sm;decide +kernel,by unfold Sm;decide +kernel⟩
theorem s16:SmQ 2 (16:Rat):=⟨by unfold Sm;decide,by unfold Sm;decide⟩
theorem s4:SmQ 2 (4:Rat):=⟨by unfold Sm;decide,by unfold Sm;decide⟩
theorem s14:SmQ 2 ((1:Rat) / 4):=⟨by unfold Sm;decide +kernel,by unfold Sm;decide +kernel⟩
theorem s12:SmQ 2 ((1:Rat) / 2):=⟨by unfold Sm;decide +kernel,by unfold Sm;decide +kernel⟩
theorem s360:SmQ 3 (360:Rat):=⟨by unfold Sm;decide,by unfold Sm;decide⟩
theorem t5:Sq ((1:Rat) / 5)=⟨#[49,47,53]⟩:=by decide +kernel
theorem t239:Sq ((1:Rat) / 239)=⟨#[49,47,50,51,57]⟩:=by decide +kernel
theorem t16:Sq (16:Rat)=⟨#[49,54]⟩:=by decide +kernel
theorem t4:Sq (4:Rat)=⟨#[52]⟩:=by decide +kernel
theorem t14:Sq ((1:Rat) / 4)=⟨#[49,47,52]⟩:=by decide +kernel
theorem t12:Sq ((1:Rat) / 2)=⟨#[49,47,50]⟩:=by decide +kernel
theorem tn12:Sq (-(1:Rat) / 2)=⟨#[45,49,47,50]⟩:=by decide +kernel
theorem t360:Sq (360:Rat)=⟨#[51,54,48]⟩:=by decide +kernel
theorem tF {n:Nat}(hn:n≤5):SmQ 400 (piI n).1∧SmQ 400 (piI n).2:=by
 have a:=kg (n:=n) s5 (by omega);have b:=kg (n:=n) s239 (by omega)
 have h1:(n+1)*(1+(1+1)*(n+1)+4+1)+1≤109:=by
  have:n+1≤6:=by omega
  have h2:1+(1+1)*(n+1)+4+1≤18:=by omega
  have:=Nat.mul_le_mul this h2;omega
 have h3:(n+1)*(3+(3+3)*(n+1)+4+1)+1≤265:=by
  have:n+1≤6:=by omega
  have h2:3+(3+3)*(n+1)+4+1≤44:=by omega
  have:=Nat.mul_le_mul this h2;omega
 have c:=dJ s16 (a.1.mono h1) (a.2.mono h1);have d:=dJ s4 (b.1.mono h3) (b.2.mono h3);exact⟨(c.1.sub d.2).mono (by decide),(c.2.sub d.1).mono (by decide)⟩
theorem gB {x:Rat}{p:Rat × Rat}{k l:Nat}(hx:SmQ k x)(h1:SmQ l p.1)(h2:SmQ l p.2)(hp:p.1≤p.2)(hk:k+l≤900)(w:World)(hla:La w) :
 CV w 43 #[.string (Sq x),.agg #[.string (Sq p.1),.string (Sq p.2)]] (.agg #[.string (Sq (mulI x p).1),.string (Sq (mulI x p).2)]) :=
 zR _ _ _ _ _ _ _ 0 w (mq (hx.fit (by omega)) w hla) (fun W hW=>xMul x x p.1 p.2 _ _ _ _ rfl rfl rfl rfl Rat.le_refl hp (hx.fit (by omega)) (hx.fit (by omega)) (h1.fit (by omega)) (h2.fit (by omega)) ((hx.mul h1).fit hk) ((hx.mul h2).fit hk) ((hx.mul h1).fit hk) ((hx.mul h2).fit hk) W (hla.on hW))
theorem yP {p q:Rat × Rat}(h1:aO p.1)(h2:aO p.2)(h3:aO q.1)(h4:aO q.2)(hp:p.1≤p.2)(hq:q.1≤q.2)(w:World)(hla:La w) :
 CV w 42 #[.agg #[.string (Sq p.1),.string (Sq p.2)],.agg #[.string (Sq q.1),.string (Sq q.2)]] (.agg #[.string (Sq (subI p q).1),.string (Sq (subI p q).2)]) :=
 z3M _ _ _ _ _ _ 0 w (fun W hW=>xSub _ _ _ _ _ _ rfl rfl hp hq h1 h2 h3 h4 W (hla.on hW))
theorem lC {n:Nat}(hn1:1≤n)(hn:n≤5)(w:World)(hla:La w):CV w 19 #[.int .i64 (n:Int)] (.agg #[.int .i64 (n:Int),.string (Sq (piI n).1),.string (Sq (piI n).2)]):=by
 have _:=hn1;have a:=kg (n:=n) s5 (by omega);have b:=kg (n:=n) s239 (by omega)
 have h1:(n+1)*(1+(1+1)*(n+1)+4+1)+1≤109:=by
  have h3:n+1≤6:=by omega
  have h2:1+(1+1)*(n+1)+4+1≤18:=by omega
  have:=Nat.mul_le_mul h3 h2;omega
 have h3:(n+1)*(3+(3+3)*(n+1)+4+1)+1≤265:=by
  have h4:n+1≤6:=by omega
  have h2:3+(3+3)*(n+1)+4+1≤44:=by omega
  have:=Nat.mul_le_mul h4 h2;omega
 have e1:=fP (n:=n) s5 (by omega) (by omega) w hla;have e2:=fP (n:=n) s239 (by omega) (by omega) w hla;have c:=dJ s16 (a.1.mono h1) (a.2.mono h1);have d:=dJ s4 (b.1.mono h3) (b.2.mono h3);have e3:=gB s16 (a.1.mono h1) (a.2.mono h1) (jw _ _) (by decide) w hla;have e4:=gB s4 (b.1.mono h3) (b.2.mono h3) (jw _ _) (by decide) w hla;have e5:=yP (c.1.fit (by decide)) (c.2.fit (by decide)) (d.1.fit (by decide)) (d.2.fit (by decide)) (gP 16 (serI (1 / 5) n)) (gP 4 (serI (1 / 239) n)) w hla;rw[t5]at e1;rw[t239]at e2;rw[t16]at e3;rw[t4]at e4;exact oG _ _ _ _ _ _ _ _ _ _ _ w e1 e2 e3 e4 e5
theorem z6J {n:Nat}{x:Rat}{k l:Nat}(hn:n≤5)(hx:SmQ k x)(h1 : -1 / 2≤x)(h2:x≤1)(hr:SmQ l ((1-x) / (1+x)))(hk:(n+1)*(k+(k+k)*(n+1)+4+1)+1≤900)(hl:(n+1)*(l+(l+l)*(n+1)+4+1)+1≤490)(w:World)(hla:La w) :
 CV w 36 #[.agg #[.int .i64 (n:Int),.string (Sq (piI n).1),.string (Sq (piI n).2)],.string (Sq x)] (.agg #[.string (Sq (atI n x).1),.string (Sq (atI n x).2)]):=by
 have _:=h2
 have hkk:k≤300:=by
  have:k+(k+k)*(n+1)+4+1≤(n+1)*(k+(k+k)*(n+1)+4+1):=Nat.le_mul_of_pos_left _ (by omega);have:(k+k)*1≤(k+k)*(n+1):=Nat.mul_le_mul_left _ (by omega);omega
 have hll:l≤300:=by
  have:l+(l+l)*(n+1)+4+1≤(n+1)*(l+(l+l)*(n+1)+4+1):=Nat.le_mul_of_pos_left _ (by omega);have:(l+l)*1≤(l+l)*(n+1):=Nat.mul_le_mul_left _ (by omega);omega
 have hx9:aO x:=hx.fit (by omega);have sn12:SmQ 2 (-(1:Rat) / 2):=⟨by unfold Sm;decide +kernel,by unfold Sm;decide +kernel⟩;have o1:=gz (x:=x) (y := -(1:Rat) / 2) rfl hx9 (sn12.fit (by decide)) w hla;have o2:=gz (x:=x) (y:=(1:Rat) / 2) rfl hx9 (s12.fit (by decide)) w hla;rw[tn12]at o1;rw[t12]at o2
 have f1:decide (cmpQ x (-(1:Rat) / 2)<0)=false:=by
  rcases cz x (-(1:Rat) / 2) with⟨h,e⟩|⟨h,e⟩|⟨h,e⟩
  · grind
  · rw[e];rfl
  · rw[e];rfl
 by_cases hm:x≤1 / 2
 · have f2:decide (cmpQ x ((1:Rat) / 2)≤0)=true:=by
    rcases cz x ((1:Rat) / 2) with⟨h,e⟩|⟨h,e⟩|⟨h,e⟩
    · rw[e];rfl
    · rw[e];rfl
    · grind
   have e:atI n x=serI x n:=by unfold atI;rw[if_pos hm]
   rw[e];exact uT _ _ _ _ _ _ _ _ w o1 o2 (fP hx (by omega) hk w hla) f1 f2
 · have e:atI n x=subI (mulI (1 / 4) (piI n)) (serI ((1-x) / (1+x)) n):=by unfold atI;rw[if_neg hm]
   rw[e];have hgt:(1:Rat) / 2<x:=by grind
   rw[mh hgt]at o2;have e3:=jg (x:=1) (y:=x) rfl (su1.fit (by decide)) hx9 w hla;have e4:=iH (x:=1) (y:=x) rfl (su1.fit (by decide)) hx9 w hla;have hne:1+x≠0:=by grind
   have e5:=oz (x:=1-x) (y:=1+x) rfl ((su1.sub hx).fit (by omega)) ((su1.add hx).fit (by omega)) hne w hla;have hp:=tF hn;have e6:=gB s14 hp.1 hp.2 (nM n) (by decide) w hla;have hq:=dJ s14 hp.1 hp.2;have hs:=kg (n:=n) hr (by omega);have e7:=fP (n:=n) hr (by omega) (by omega) w hla;have e8:=yP (hq.1.fit (by decide)) (hq.2.fit (by decide)) (hs.1.fit (by omega)) (hs.2.fit (by omega)) (gP (1 / 4) (piI n)) (jw ((1-x) / (1+x)) n) w hla;rw[uq1]at e3 e4;rw[t14]at e6;exact qx _ _ _ _ _ _ _ _ _ _ _ _ _ _ w o1 o2 e3 e4 e5 e6 e7 e8 f1
theorem z6H {w₀:World}{n:Nat}{x:Rat}{m:Nat}(hn:n≤5)(hat:CV w₀ 36 #[.agg #[.int .i64 (n:Int),.string (Sq (piI n).1),.string (Sq (piI n).2)],.string (Sq x)] (.agg #[.string (Sq (atI n x).1),.string (Sq (atI n x).2)]))(h1:SmQ m (atI n x).1)(h2:SmQ m (atI n x).2)(hm:m≤497)(hpos:0<(piI n).1)(hla:La w₀) :
 CV w₀ 20 #[.agg #[.int .i64 (n:Int),.string (Sq (piI n).1),.string (Sq (piI n).2)],.string (Sq x)] (.agg #[.string (Sq (degI n x).1),.string (Sq (degI n x).2)]):=by
 have hp:=tF hn;have hle:=nM n;have hs:=dJ s360 h1 h2;have e2:=gB s360 h1 h2 (qo n x) (by omega) w₀ hla;rw[t360]at e2;have n1:(piI n).1≠0:=by grind
 have n2:(piI n).2≠0:=by grind
 have d1:=(hs.1.div hp.1 n1).fit (by omega);have d2:=(hs.1.div hp.2 n2).fit (by omega);have d3:=(hs.2.div hp.1 n1).fit (by omega);have d4:=(hs.2.div hp.2 n2).fit (by omega);exact yN _ _ _ _ _ _ _ _ _ _ 0 w₀ hat e2 (fun W hW=>xDiv _ _ _ _ _ _ _ _ rfl rfl rfl rfl (gP 360 (atI n x)) hle (decide_eq_false (by grind)) (hs.1.fit (by omega)) (hs.2.fit (by omega)) (hp.1.fit (by decide)) (hp.2.fit (by decide)) d1 d2 d3 d4 W (hla.on hW))
