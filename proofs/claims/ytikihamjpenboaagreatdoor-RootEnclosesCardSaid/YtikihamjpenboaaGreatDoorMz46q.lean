/- texts -/
import Derived.Test.YtikihamjpenboaaGreatDoorMz42q
import Derived.Test.YtikihamjpenboaaGreatDoorMz44q
import Derived.Test.YtikihamjpenboaaGreatDoorMz45q
namespace Go.Proofs.YtikihamjpenboaaGreatDoor
open Go.RowKit Go.Gb
theorem kq2 {f:Nat}{x y z:Rat}(h:∀ p1 c1 s1 d1 p2 c2 s2 d2 W,RN W (.slice p1 (aa x.num) c1) x.num.natAbs→RN W (.slice s1 (ag x.den) d1) x.den→RN W (.slice p2 (aa y.num) c2) y.num.natAbs→RN W (.slice s2 (ag y.den) d2) y.den→Calls Tryz.prog f #[.agg #[.bool (ah x.num),.slice p1 (aa x.num) c1,.slice s1 (ag x.den) d1],.agg #[.bool (ah y.num),.slice p2 (aa y.num) c2,.slice s2 (ag y.den) d2]] W fun e w'=>∃ p c s d,e=.returned (.agg #[.bool (ah z.num),.slice p (aa z.num) c,.slice s (ag z.den) d])∧RN w' (.slice p (aa z.num) c) z.num.natAbs∧RN w' (.slice s (ag z.den) d) z.den∧Below W.heap.size W w'):KQ2 f x y z:=by
 rintro⟨b,a,n,c,e,m,d⟩ ⟨b',a',n',c',e',m',d'⟩ W ⟨h1,h2,h3,h4,h5⟩ ⟨k1,k2,k3,k4,k5⟩
 dsimp only at *;subst h1 h2 h3 k1 k2 k3;exact(h _ _ _ _ _ _ _ _ W h4 h5 k4 k5).mono fun _ _ ⟨p,c,s,d,he,hr,ht,hb⟩=>⟨⟨_,p,_,c,s,_,d⟩,he,⟨rfl,rfl,rfl,hr,ht⟩,hb⟩
theorem kp2 {f:Nat}{x y:Rat}{v:Value}(h:∀ p1 c1 s1 d1 p2 c2 s2 d2 W,RN W (.slice p1 (aa x.num) c1) x.num.natAbs→RN W (.slice s1 (ag x.den) d1) x.den→RN W (.slice p2 (aa y.num) c2) y.num.natAbs→RN W (.slice s2 (ag y.den) d2) y.den→Calls Tryz.prog f #[.agg #[.bool (ah x.num),.slice p1 (aa x.num) c1,.slice s1 (ag x.den) d1],.agg #[.bool (ah y.num),.slice p2 (aa y.num) c2,.slice s2 (ag y.den) d2]] W fun e w'=>e=.returned v∧Below W.heap.size W w'):KP2 f x y v:=by
 rintro⟨b,a,n,c,e,m,d⟩ ⟨b',a',n',c',e',m',d'⟩ W ⟨h1,h2,h3,h4,h5⟩ ⟨k1,k2,k3,k4,k5⟩
 dsimp only at *;subst h1 h2 h3 k1 k2 k3;exact h _ _ _ _ _ _ _ _ W h4 h5 k4 k5
theorem kp1 {f:Nat}{x:Rat}{v:Value}(h:∀ p1 c1 s1 d1 W,RN W (.slice p1 (aa x.num) c1) x.num.natAbs→RN W (.slice s1 (ag x.den) d1) x.den→Calls Tryz.prog f #[.agg #[.bool (ah x.num),.slice p1 (aa x.num) c1,.slice s1 (ag x.den) d1]] W fun e w'=>e=.returned v∧Below W.heap.size W w'):KP1 f x v:=by
 rintro⟨b,a,n,c,e,m,d⟩ W ⟨h1,h2,h3,h4,h5⟩
 dsimp only at *;subst h1 h2 h3;exact h _ _ _ _ W h4 h5
theorem ks {f:Nat}{v:Value}{z:Rat}(h:∀ W,Calls Tryz.prog f #[v] W fun e w'=>∃ p c s d,e=.returned (.agg #[.bool (ah z.num),.slice p (aa z.num) c,.slice s (ag z.den) d])∧RN w' (.slice p (aa z.num) c) z.num.natAbs∧RN w' (.slice s (ag z.den) d) z.den∧Below W.heap.size W w'):KS f v z:=fun W=>(h W).mono fun _ _ ⟨p,c,s,d,he,hr,ht,hb⟩=>⟨⟨_,p,_,c,s,_,d⟩,he,⟨rfl,rfl,rfl,hr,ht⟩,hb⟩
theorem ksb {f:Nat}{v:Value}{z:Rat}{b:Bool}(h:∀ W,Calls Tryz.prog f #[v] W fun e w'=>∃ p c s d,e=.returned (.tuple #[.agg #[.bool (ah z.num),.slice p (aa z.num) c,.slice s (ag z.den) d],.bool b])∧RN w' (.slice p (aa z.num) c) z.num.natAbs∧RN w' (.slice s (ag z.den) d) z.den∧Below W.heap.size W w'):KSb f v z b:=fun W=>(h W).mono fun _ _ ⟨p,c,s,d,he,hr,ht,hb⟩=>⟨⟨_,p,_,c,s,_,d⟩,he,⟨rfl,rfl,rfl,hr,ht⟩,hb⟩
theorem z4m {q:Rat}{k:Nat}(h:SmQ k q)(h0:0<k)(hk:k≤10000):LQ q:=⟨Nat.le_trans (eF h.1 h0) hk,Nat.le_trans (eF h.2 h0) hk⟩
theorem z0C (a:ByteArray)(ha:a.size≤900):∃ q:Rat,∀ W,Calls Tryz.prog 22 #[.string a] W fun e w'=>∃ p c s d,e=.returned (.tuple #[.agg #[.bool (ah q.num),.slice p (aa q.num) c,.slice s (ag q.den) d],.bool (vldQ a.data.toList)])∧RN w' (.slice p (aa q.num) c) q.num.natAbs∧RN w' (.slice s (ag q.den) d) q.den∧Below W.heap.size W w':=by
 cases h:vldQ a.data.toList with
 | false=>exact⟨0,fun W=>z2H a h ha W⟩
 | true =>
   have e:=z4I h;obtain⟨q,hq⟩:∃ q,q=qval a.data.toList:=⟨_,rfl⟩;rw[← hq]at e;subst e;exact⟨q,fun W=>z6E q (z0r ha (by decide)) (by omega) W⟩
theorem z1x (x:Rat):x.num.sign=cmpQ x 0:=by
 have h:=uX x 0;have h0:(0:Rat).num.sign=0:=rfl;rw[h0]at h;rcases Int.sign_trichotomy x.num with e|e|e
 · rw[e]at h ⊢;exact(h.2 (by decide)).symm
 · have hz:x=0:=Rat.num_eq_zero.1 (Int.sign_eq_zero_iff_zero.1 e)
   rw[hz];rfl
 · rw[e]at h ⊢;exact(h.1 (by decide)).symm
theorem glq {q:Rat}(h:SmQ 40 q):LQ q:=z4m h (by decide) (by decide)
theorem gF {x:Rat}(hx:SmQ 40 x):KSb 22 (.string (Sq x)) x true:=ksb (fun W=>z4p x (hx.mono (by decide)) (by have:=z0l (hx.mono (by decide:40≤900)) (by decide);omega) W)
theorem z1A {a:ByteArray}(ha:a.size≤40)(h:vldQ a.data.toList=false):∃ x,KSb 22 (.string a) x false:=by
 obtain⟨x,hx⟩:=z0C a (by omega);rw[h]at hx;exact⟨x,ksb hx⟩
theorem gCmp {x y:Rat}(hx:SmQ 40 x)(hy:SmQ 40 y):KP2 27 x y (.int .i64 (cmpQ x y)):=kp2 (z4M x y _ rfl (glq hx) (glq hy))
theorem gSgn (x:Rat):KP1 23 x (.int .i64 (cmpQ x 0)):=kp1 (z0A x _ (z1x x))
theorem z5s (x y:Rat):decide (cmpQ x y≤0)=decide (x≤y):=by
 rcases gV x y with⟨h,e⟩|⟨h,e⟩|⟨h,e⟩<;>rw[e,decide_eq_decide]<;>grind
theorem g1 (a:ByteArray)(ha:a.size≤40):(∃ x,a=Sq x∧SmQ 40 x)∨vldQ a.data.toList=false:=by
 cases hv:vldQ a.data.toList with
 | true =>
   have e:=z4I hv;exact Or.inl ⟨_,e,z0r (by rwa [← e]) (by decide)⟩
 | false=>exact Or.inr rfl
theorem g40 {x:Rat}(h:SmQ 40 x):FitQ x:=h.fit (by decide)
theorem pIV (l u:ByteArray)(hl:l.size≤40)(hu:u.size≤40):∃ (b:Bool) (xa xb:Rat),KIb 35 (.agg #[.string l,.string u]) xa xb b ∧
 (CL 31 #[.agg #[.string l,.string u]] (.bool b))∧(b=true→l=Sq xa∧u=Sq xb∧SmQ 40 xa∧SmQ 40 xb∧xa≤xb):=by
 rcases g1 l hl with⟨x,rfl,hx⟩|hv
 · rcases g1 u hu with⟨y,rfl,hy⟩|hv
   · refine⟨decide (x≤y),x,y,fun W=>z1z _ _ x y _ _ W (z5s x y) (gF hx) (gF hy) (gCmp hx hy),fun W hW=>?_,fun h=>⟨rfl,rfl,hx,hy,of_decide_eq_true h⟩⟩
     by_cases h:x≤y
     · rw[decide_eq_true h];exact mG x y h (g40 hx) (g40 hy) W hW
     · rw[decide_eq_false h];exact z1u x y (by grind) (g40 hx) (g40 hy) W hW
   · obtain⟨y,hy⟩:=z1A hu hv
     exact⟨false,x,y,fun W=>z3u _ _ x y W (gF hx) hy,fun W hW=>mH _ _ (by rw[hv,Bool.and_false]) (by omega) (by omega) W hW,fun h=>by cases h⟩
 · obtain⟨x,hx⟩:=z1A hl hv
   rcases g1 u hu with⟨y,rfl,hy⟩|hv2
   · exact⟨false,x,y,fun W=>sJ _ _ x y true W hx (gF hy),fun W hW=>mH _ _ (by rw[hv,Bool.false_and]) (by omega) (by omega) W hW,fun h=>by cases h⟩
   · obtain⟨y,hy⟩:=z1A hu hv2
     exact⟨false,x,y,fun W=>sJ _ _ x y false W hx hy,fun W hW=>mH _ _ (by rw[hv,Bool.false_and]) (by omega) (by omega) W hW,fun h=>by cases h⟩
theorem z5K (x:Rat)(z:Int)(hz:x.num / (x.den:Int)=z)(hx:LQ x)(p1:Option Addr)(c1:Nat)(s1:Option Addr)(d1:Nat)(W:World)(r1:RN W (.slice p1 (aa x.num) c1) x.num.natAbs)(t1:RN W (.slice s1 (ag x.den) d1) x.den) :
 CZ 76 #[.agg #[.bool (ah x.num),.slice p1 (aa x.num) c1,.slice s1 (ag x.den) d1]] W z :=
 z0d x.num (x.den:Int) z (x.num%(x.den:Int)) x.den p1 c1 s1 d1 W (fun s d W h=>jc false _ x.den _ (by simp) (Nat.le_trans hx.2 (by decide)) W h) (fun p1 c1 p2 c2 W h1 h2=>z6D x.num (x.den:Int) z _ hz rfl (by have:=x.den_pos;omega) (Nat.le_trans hx.1 (by decide)) (by rw[qP];exact Nat.le_trans hx.2 (by decide)) p1 c1 p2 c2 W h1 h2) r1 t1
theorem z5r (a b:Nat):cmpQ ((a:Nat):Rat) ((b:Nat):Rat)=if a<b then -1 else if b<a then 1 else 0:=by
 unfold cmpQ
 simp only[Rat.natCast_lt_natCast]
theorem z0s {n k:Nat}(h:(Sn n).size≤k):Sm k n:=by
 have:=Sm.of (eT n) h;rwa [bR]at this
theorem z4J (n k:Nat)(h:0<n / 10^k):(Sn n).extract 0 ((Sn n).size-k)=Sn (n / 10^k):=by
 apply ByteArray.ext
 apply Array.ext'
 have h1:=zT n k h;have h2:(Sn n).size=(Lib.decDigits n).length:=by rw[← bQ,aC]
 rw[bQ,← h1,h2,ByteArray.data_extract,Array.toList_extract,bQ];simp
theorem z2F (v k:Nat)(h:0<v):Sn v++⟨(Lib.repeatL [48] k).toArray⟩=Sn (v*10^k):=by
 apply ByteArray.ext
 apply Array.ext'
 have h1:=z1P v k h;have h2:=Lib.repeatL_replicate 48 1 k;rw[Nat.mul_one]at h2;rw[bQ,h1,← h2];simp[Sn]
theorem z3g (n k:Nat)(hn:1≤n)(hk:Sm k n)(hk1:1≤k)(hk2:k≤850)(w:World)(hla:La w)
 (ih:∀ m,m<n→CV w 20 #[.string (Sn m)] (.string (Sn (isq m)))) :
 ∃ g0,AbG n g0∧Sm (k+2) g0∧CV w 48 #[.string (Sn n)] (.string (Sn g0)):=by
 have hs:=fT hk hk1;obtain⟨d,hd⟩:∃ d,(Sn n).size / 4=d:=⟨_,rfl⟩
 have e1:(((Sn n).size:Nat):Int).tdiv 4=(d:Int):=by
  rw[Int.tdiv_eq_ediv_of_nonneg (Int.natCast_nonneg _)];omega
 by_cases h0:d=0
 · subst h0
   have h3:Sm 3 n:=z0s (by omega);have h3':n<1000:=h3;refine⟨32,⟨by decide,by omega⟩,?_,?_⟩
   · exact(show Sm 2 32 by unfold Sm;decide).mono (by omega)
   · have h:=uB (Sn n) w e1
     rwa [show(⟨#[51,50]⟩:ByteArray)=Sn 32 from by decide +kernel]at h
 · have hge:10^(d+d)≤n:=by
    apply Nat.le_of_not_lt
    intro hlt;have:=fT (show Sm (d+d) n from hlt) (by omega);omega
   have hp1:0<10^d:=Nat.pow_pos (by decide);have hp2:0<10^(d+d):=Nat.pow_pos (by decide);have hpos:0<n / 10^(d+d):=Nat.div_pos hge hp2;have hone:1<10^(d+d):=Nat.one_lt_pow (by omega) (by decide);have hlt:n / 10^(d+d)<n:=Nat.div_lt_self hn hone;have hle2:10^d≤10^(d+d):=Nat.pow_le_pow_right (by decide) (by omega);have hx:=z4J n (d+d) hpos;obtain⟨s,hs'⟩:∃ s,isq (n / 10^(d+d))=s:=⟨_,rfl⟩;have c1:=ih _ hlt;rw[hs']at c1;have hsp:=(iI (n / 10^(d+d))).2;rw[hs']at hsp;have hsl:s≤n / 10^(d+d):=hs'▸kC _;have hgf:=wG hsp
   have hprod:n / 10^(d+d)*10^d≤n:=by
    refine Nat.le_trans (Nat.mul_le_mul_left _ hle2) ?_;exact Nat.div_mul_le_self _ _
   have hg0:(s+1)*10^d≤n+n:=by
    rw[Nat.add_mul,Nat.one_mul];have:=Nat.mul_le_mul_right (10^d) hsl;omega
   have hsm:Sm (k+2) ((s+1)*10^d):=((hk.add hk).mono (by omega)).le hg0;refine⟨(s+1)*10^d,⟨Nat.mul_pos (by omega) hp1,hgf⟩,hsm,?_⟩;have hs1:Sm k s:=hk.le (Nat.le_trans hsl (Nat.div_le_self _ _));have q1:=dL hs1 hk1;have q2:=dL (show Sm 1 1 by unfold Sm;decide) (Nat.le_refl 1)
   have c2:CV w 42 #[.string (Sn s),.string ⟨#[49]⟩] (.string (Sn (s+1))):=by
    have h:=o5 (x:=((s:Nat):Rat)) (y:=((1:Nat):Rat)) (z:=((s+1:Nat):Rat)) (by rw[Rat.natCast_add]) (q1.fit (by omega)) (q2.fit (by decide)) w hla;rwa [← jC,← jC,← jC,show Sn 1=⟨#[49]⟩from by decide +kernel]at h
   have c3:CV w 88 #[.string ⟨#[48]⟩,.int .i64 (d:Int)] (.string ⟨(Lib.repeatL [48] d).toArray⟩):=fun W _=>by
    have h:=Tryz.strings_Repeat ⟨#[48]⟩ d W (by omega) (by show 1*d≤_;omega);rw[show(⟨#[48]⟩:ByteArray).data.toList=[48]from rfl]at h;exact h
   have hz:(⟨(Lib.repeatL [48] d).toArray⟩:ByteArray).size=d:=by rw[size_mk,Lib.repeatL_length];simp
   have hs1':(Sn (s+1)).size≤k+1:=fT (hs1.add (show Sm k 1 from(show Sm 1 1 by unfold Sm;decide).mono hk1)) (by omega);obtain⟨m,hm⟩:∃ m,m+2*d=(Sn n).size:=⟨(Sn n).size-2*d,by omega⟩
   have hx':(Sn n).extract 0 m=Sn (n / 10^(d+d)):=by
    rw[← hx];congr 1
    omega
   have h:=vU (Sn n) _ _ _ _ d m w c1 c2 c3 e1 (wrap_small (by omega) (by omega)) (by simpa using h0) (wrap_small (by omega) (by omega)) (by omega) (wrap_small (by omega) (by omega)) (by omega) hx' (by omega);rwa [z2F _ _ (by omega)]at h
theorem ll (k:Nat)(hk1:1≤k)(hk2:k≤850)(n:Nat):Sm k n→∀ w,La w→CV w 20 #[.string (Sn n)] (.string (Sn (isq n))):=by
 induction n using Nat.strongRecOn with
 | ind n ih =>
   intro hk w hla;rcases Nat.eq_zero_or_pos n with rfl|hn
   · have h:=vR w
     rwa [show(⟨#[48]⟩:ByteArray)=Sn 0 from by decide +kernel]at h
   · obtain⟨g0,ha,hg,hf⟩:=z3g n k hn hk hk1 hk2 w hla (fun m hm=>ih m hm (hk.le (Nat.le_of_lt hm)) w hla)
     have R:=fun g (hag:AbG n g) (hgg:g≤g0)=>z5V (n:=n) (g:=g) (k:=k+2) hag.1 (hk.mono (by omega)) (hg.le hgg) (by omega) (by omega) w hla;refine zm (Sn n) n g0 Sn (fun g=>Sq (((n:Nat):Rat) / ((g:Nat):Rat))) (fun g=>Sq (((g+n / g:Nat):Rat)*((1:Rat) / 2))) ?_ hn ha w hf (fun g a b=>(R g a b).1) (fun g a b=>(R g a b).2.1) (fun g a b=>(R g a b).2.2.1) (fun g a b=>(R g a b).2.2.2.1) (fun g a b=>(R g a b).2.2.2.2) ?_
     · have h:=nU (x:=((n:Nat):Rat)) (y:=((0:Nat):Rat)) (fun e=>by have:=Rat.natCast_inj.1 e;omega)
       rwa [← jC,← jC,show Sn 0=⟨#[48]⟩from by decide +kernel,toList_data ⟨#[48]⟩]at h
     · intro g hag hgg
       have hsg:=hg.le hgg;have hnx:Sm (k+3) ((g+n / g) / 2):=(hsg.add ((hk.mono (show k≤k+2 by omega)).le (Nat.div_le_self n g))).le (Nat.div_le_self _ _);have h:=rU (z5r ((g+n / g) / 2) g) ((dL hnx (by omega)).fit (by omega)) ((dL hsg (by omega)).fit (by omega)) w hla;rwa [← jC,← jC]at h
def iX (x:Rat) (n:Nat):Rat:=if eX x n then (eK x n:Rat) / (n:Rat) else ((eK x n:Rat)+1 / 2) / (n:Rat)
theorem ry:SmQ 1 ((1:Rat) / 2):=⟨by unfold Sm;decide +kernel,by unfold Sm;decide +kernel⟩
theorem z0v {x:Rat}{n k:Nat}(_h0:0≤x)(hx:SmQ k x)(hn:Sm 10 n)(hk:1≤k):Sm (k+21) (eK x n):=by
 unfold eK rk
 have hp:=hx.mul ((dL hn (by decide)).mul (dL hn (by decide)));have hf:=kY hp (by omega);have e:(x*((n:Rat)*(n:Rat))).num / ((x*((n:Rat)*(n:Rat))).den:Int)=(x*((n:Rat)*(n:Rat))).floor:=(Rat.floor_def _).symm;rw[e]at hf;exact(Sm.le hf (Nat.le_trans (kC _) (by omega))).mono (by omega)
theorem fU {n:Nat}(h:1≤n):((n:Nat):Rat)≠0:=by
 have:=rE h;grind
theorem z0t {x:Rat}{n k:Nat}(h0:0≤x)(hx:SmQ k x)(hn:Sm 10 n)(hn1:1≤n)(hk:1≤k):SmQ (k+33) (iX x n):=by
 have h1:=dL (z0v h0 hx hn hk) (by omega);have h2:=dL hn (by decide);unfold iX
 split
 · exact(h1.div h2 (fU hn1)).mono (by omega)
 · exact((h1.add ry).div h2 (fU hn1)).mono (by omega)
theorem z1a {x:Rat}{n k:Nat}(h0:0≤x)(hx:SmQ k x)(hk:1≤k)(hk2:k≤750)(hn1:1≤n)(hn2:n≤1000000000)(w:World)(hla:La w) :
 CV w 34 #[.string (Sq x),.int .i64 (n:Int)] (.string (Sq (iX x n))):=by
 have hn:Sm 10 n:=by
  have h:(1000000000:Nat)<10^10:=by decide
  exact Nat.lt_of_le_of_lt hn2 h
 have qn:=dL hn (by decide);have hpp:=qn.mul qn;have hsq:=hx.mul hpp
 have c1:CV w 73 #[.int .i64 (n:Int)] (.string (Sq ((n:Nat):Rat))):=fun W hW=>by
  have h:=z6f (n:Int) (by omega) (by omega) W (hla.on hW);rwa [dB,jC]at h
 have c2:=gm (x:=((n:Nat):Rat)) (y:=((n:Nat):Rat)) rfl (qn.fit (by decide)) (qn.fit (by decide)) w hla;have c3:=gm (x:=x) (y:=((n:Nat):Rat)*((n:Nat):Rat)) rfl (hx.fit (by omega)) (hpp.fit (by decide)) w hla;have hpos:0≤x*(((n:Nat):Rat)*((n:Nat):Rat)):=Rat.mul_nonneg h0 (Rat.mul_nonneg (dR n) (dR n))
 have hfl:(x*(((n:Nat):Rat)*((n:Nat):Rat))).num / ((x*(((n:Nat):Rat)*((n:Nat):Rat))).den:Int)=(((x*(((n:Nat):Rat)*((n:Nat):Rat))).floor.toNat:Nat):Int):=by
  rw[← Rat.floor_def,Int.toNat_of_nonneg];exact Rat.le_floor_iff.2 hpos
 have c4:=rW hfl (hsq.fit (by omega)) w hla;rw[dB]at c4;have hsf:=kY hsq (by omega);rw[hfl,Int.natAbs_natCast]at hsf;have c5:=ll (k+(10+10)+1) (by omega) (by omega) _ hsf w hla;have hK:=dL (z0v h0 hx hn hk) (by omega);have c6:=gm (x:=((eK x n:Nat):Rat)) (y:=((eK x n:Nat):Rat)) rfl (hK.fit (by omega)) (hK.fit (by omega)) w hla;rw[show Sn (isq (x*(((n:Nat):Rat)*((n:Nat):Rat))).floor.toNat)=Sq ((eK x n:Nat):Rat) from jC _]at c5;by_cases he:eX x n=true
 · have e:((eK x n:Nat):Rat)*((eK x n:Nat):Rat)=x*(((n:Nat):Rat)*((n:Nat):Rat)):=of_decide_eq_true he
   rw[e]at c6;have c7:=o8 (x:=((eK x n:Nat):Rat)) (y:=((n:Nat):Rat)) rfl (hK.fit (by omega)) (qn.fit (by decide)) (fU hn1) w hla;unfold iX
   rw[if_pos he];exact vT _ _ _ _ _ _ _ _ w c1 c2 c3 c4 c5 c6 c7
 · have e:((eK x n:Nat):Rat)*((eK x n:Nat):Rat)≠x*(((n:Nat):Rat)*((n:Nat):Rat)):=fun h=>he (decide_eq_true h)
   have c7:=o5 (x:=((eK x n:Nat):Rat)) (y:=(1:Rat) / 2) rfl (hK.fit (by omega)) (ry.fit (by decide)) w hla;rw[z5Z]at c7;have c8:=o8 (x:=((eK x n:Nat):Rat)+1 / 2) (y:=((n:Nat):Rat)) rfl ((hK.add ry).fit (by omega)) (qn.fit (by decide)) (fU hn1) w hla;unfold iX
   rw[if_neg he];exact zx _ _ _ _ _ _ _ _ _ _ w c1 c2 c3 c4 c5 c6 c7 c8 (nU e)
def iC (x:Rat):Rat:=((isq x.num.natAbs:Nat):Rat) / ((isq x.den:Nat):Rat)
theorem jo (x:Rat):1≤isq x.den:=z5j x.den_pos
theorem rA {x:Rat}{k:Nat}(hx:SmQ k x)(hk:1≤k):SmQ (k+k) (iC x):=by
 unfold iC
 exact(dL (hx.1.le (kC _)) hk).div (dL (hx.2.le (kC _)) hk) (fU (jo x))
theorem z0V {x:Rat}{k:Nat}(h0:0≤x)(hx:SmQ k x)(hk2:k≤390)(w:World)(hla:La w) :
 CV w 17 #[.string (Sq x)] (.tuple #[.string (Sn x.num.natAbs),.string (Sn x.den),.int .i64 0]):=fun W hW=>by
 have h:=z4t x (hx.fit (by omega)) W (hla.on hW);have e:x.num=((x.num.natAbs:Nat):Int):=(Int.natAbs_of_nonneg (Rat.num_nonneg.2 h0)).symm;rw[e,dB,dB]at h;exact h
theorem iM {x:Rat}{k:Nat}(hx:SmQ k x)(hk2:k≤900)(w:World)(hla:La w):CV w 18 #[.string (Sq x)] (.int .i64 (cmpQ x 0)):=by
 have h:=rU (x:=x) (y:=0) rfl (hx.fit hk2) ((show SmQ 1 (0:Rat) from⟨by unfold Sm;decide,by unfold Sm;decide⟩).fit (by decide)) w hla;rw[show Sq (0:Rat)=⟨#[48]⟩from by decide +kernel]at h;exact z0Y _ _ w h
theorem cZ {x:Rat}(h0:0≤x):decide (cmpQ x 0<0)=false:=by
 rcases gV x 0 with⟨h,e⟩|⟨h,e⟩|⟨h,e⟩
 · grind
 · rw[e];rfl
 · rw[e];rfl
theorem qD {x:Rat}{k:Nat}(h0:0≤x)(hx:SmQ k x)(hk:1≤k)(hk2:k≤390)(h:iC x*iC x=x)(w:World)(hla:La w) :
 CV w 6 #[.string (Sq x)] (.tuple #[.string (Sq (iC x)),.bool true,.int .i64 0]):=by
 have q1:=dL (hx.1.le (kC _)) hk;have q2:=dL (hx.2.le (kC _)) hk;have c3:=ll k hk (by omega) _ hx.1 w hla;have c4:=ll k hk (by omega) _ hx.2 w hla;rw[jC (isq _)]at c3 c4;have c5:=o8 (x:=((isq x.num.natAbs:Nat):Rat)) (y:=((isq x.den:Nat):Rat)) (z:=iC x) rfl (q1.fit (by omega)) (q2.fit (by omega)) (fU (jo x)) w hla;have hr:=rA hx hk;have c6:=gm h (hr.fit (by omega)) (hr.fit (by omega)) w hla;exact zA _ _ _ _ _ _ _ w (z0V h0 hx hk2 w hla) (iM hx (by omega) w hla) c3 c4 c5 c6 (cZ h0)
theorem zD {x:Rat}{k:Nat}(h0:0≤x)(hx:SmQ k x)(hk:1≤k)(hk2:k≤390)(h:iC x*iC x≠x)(w:World)(hla:La w) :
 CV w 6 #[.string (Sq x)] (.tuple #[.string ⟨#[]⟩,.bool false,.int .i64 0]):=by
 have q1:=dL (hx.1.le (kC _)) hk;have q2:=dL (hx.2.le (kC _)) hk;have c3:=ll k hk (by omega) _ hx.1 w hla;have c4:=ll k hk (by omega) _ hx.2 w hla;rw[jC (isq _)]at c3 c4;have c5:=o8 (x:=((isq x.num.natAbs:Nat):Rat)) (y:=((isq x.den:Nat):Rat)) (z:=iC x) rfl (q1.fit (by omega)) (q2.fit (by omega)) (fU (jo x)) w hla;have hr:=rA hx hk;have c6:=gm (x:=iC x) (y:=iC x) rfl (hr.fit (by omega)) (hr.fit (by omega)) w hla;exact zB _ _ _ _ _ _ _ _ w (z0V h0 hx hk2 w hla) (iM hx (by omega) w hla) c3 c4 c5 c6 (cZ h0) (nU h)
theorem zF {x:Rat}{k:Nat}(h0:x<0)(hx:SmQ k x)(hk2:k≤390)(w:World)(hla:La w) :
 CV w 6 #[.string (Sq x)] (.tuple #[.string ⟨#[]⟩,.bool false,.int .i64 2]):=by
 have h:=iM hx (by omega) w hla;rw[sU h0]at h;exact zC _ _ _ w (fun W hW=>z4t x (hx.fit (by omega)) W (hla.on hW)) h
theorem z4s (x:Rat)(n:Int):rdQ x n=(((x*(n:Rat)).floor:Int):Rat) / (n:Rat):=by
 unfold rdQ
 rw[Rat.divInt_eq_div,Rat.floor_def];rfl
def Iv (g:Nat) (x y:ByteArray) (W:World):Prop:=g<W.heap.size∧W.cell? ⟨g,0,none⟩=some (.string x)∧W.cell? ⟨g,1,none⟩=some (.string y)
theorem Iv.mono {g:Nat}{x y:ByteArray}{W W':World}(h:Iv g x y W)(hb:Below W.heap.size W W'):Iv g x y W' :=
 ⟨Nat.lt_of_lt_of_le h.1 hb.size,(hb.cell (p:=⟨g,0,none⟩) h.1).trans h.2.1,(hb.cell (p:=⟨g,1,none⟩) h.1).trans h.2.2⟩
def hcells (q:Nat→Rat) (m:Nat):List Value:=(List.range m).map fun j => .string (Sq (q j))
theorem yL (x y:Rat)(h:x≤y)(hx:FitQ x)(hy:FitQ y)(w:World)(hl:La w) :
 CR 31 #[.agg #[.string (Sq x),.string (Sq y)]] w (.bool true):=mG x y h hx hy w hl
theorem z4c (x:Rat)(hx:FitQ x)(w:World)(hl:La w) :
 CR 30 #[.string (Sq x)] w (.tuple #[.agg #[.string (Sq x),.string (Sq x)],.int .i64 0]):=z6h x hx w hl
theorem z5F {k:Nat}(a b:Rat)(n:Int)(hk:k≤790)(h:a≤b)(ha:SmQ k a)(hb:SmQ k b)(hn1:1≤n)(hn2:n≤1000000000)(w:World)(hl:La w) :
 CR 33 #[.agg #[.string (Sq a),.string (Sq b)],.int .i64 n] w (.tuple #[.agg #[.string (Sq (rdQ a n)),.string (Sq (0-rdQ (0-b) n))],.int .i64 0]):=z6g a b n hk h ha hb hn1 hn2 w hl
