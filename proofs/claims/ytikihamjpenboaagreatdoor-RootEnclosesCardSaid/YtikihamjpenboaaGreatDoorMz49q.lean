/- texts -/
import Derived.Test.YtikihamjpenboaaGreatDoorOxa
import Derived.Test.YtikihamjpenboaaGreatDoorMz48q
open Go.Proofs.Tryz
set_option maxRecDepth 100000
set_option maxHeartbeats 20000000
open Go.Lib (hid)
namespace Go.Proofs.YtikihamjpenboaaGreatDoor
open Go.RowKit Go.Gb
theorem z5Y (l u:ByteArray)(n:Int)(w₀:World)(h1:CV w₀ 31 #[.agg #[.string l,.string u]] (.bool false))  :
 CV w₀ 10 #[.agg #[.string l,.string u],.int .i64 n] (.tuple #[.agg #[.string ⟨#[]⟩,.string ⟨#[]⟩],.int .i64 1]):=by
 intro w hw;have C1:=hid (h1.mono hw);clear h1 hw;go_enter func10,ntmps10
 go_upto_region 1 with fail
 refine az w [(#[.string l,.string u],24),(#[.int .i64 n],3),(#[.string ⟨#[]⟩,.string ⟨#[]⟩],24),(#[.int .i64 0],27)] rfl ?_;rintro W0 ⟨k1,k2,k3,k4,hb⟩;have w9:=hid (show Below w.heap.size w W0 from hb);obtain ⟨K1,K2,K3,K4⟩:=aM k1 k2 k3 k4;clear k1 k2 k3 k4 hb;obtain ⟨u6,wo⟩:=au K1.o rfl rfl;go_wp2_with fail
 with_reducible refine(C1.o _ w9.o).mono ?_
 rintro e W1 ⟨rfl,hb⟩;clear u6 wo;obtain ⟨K3,K4⟩:=aH hb K3 K4;have wu:=hbt w9 hb;clear hb;obtain ⟨si,sj⟩:=au K3.o rfl rfl;have sw:=K4.o.cell (i:=0) rfl;have ru:=K3.o.frozen (i:=0);have rM:=K3.o.frozen (i:=1);have rV:=K4.o.frozen (i:=0);go_wp2;exact bodyPost_ret (v:=.tuple #[.agg #[.string ⟨#[]⟩,.string ⟨#[]⟩],.int .i64 1]) (by simp[results,results10,go_sem,si,sj,sw]) rfl ⟨rfl,(ay (l:=[.int .i64 1]) (i:=0) (by omega) (ay (l:=[.string ⟨#[]⟩,.string ⟨#[]⟩]) (i:=0) (by omega) wu.o))⟩
theorem z6O (l u:ByteArray)(n s:Int)(w₀:World)(h1:CV w₀ 31 #[.agg #[.string l,.string u]] (.bool true))(h2:CV w₀ 18 #[.string l] (.int .i64 s))(f1:decide (s<0)=false)(h9:n<1) :
 CV w₀ 10 #[.agg #[.string l,.string u],.int .i64 n] (.tuple #[.agg #[.string ⟨#[]⟩,.string ⟨#[]⟩],.int .i64 2]):=by
 intro w hw;have C1:=hid (h1.mono hw);have C2:=hid (h2.mono hw);have g1:=f1;clear f1;have e1:decide (n<1)=true:=decide_eq_true h9;have e2:n<1:=h9;clear h9 h1 h2 hw;go_enter func10,ntmps10
 go_upto_region 1 with fail
 refine az w [(#[.string l,.string u],24),(#[.int .i64 n],3),(#[.string ⟨#[]⟩,.string ⟨#[]⟩],24),(#[.int .i64 0],27)] rfl ?_;rintro W0 ⟨k1,k2,k3,k4,hb⟩;have w9:=hid (show Below w.heap.size w W0 from hb);obtain ⟨K1,K2,K3,K4⟩:=aM k1 k2 k3 k4;clear k1 k2 k3 k4 hb;obtain ⟨u6,wo⟩:=au K1.o rfl rfl;go_wp2_with fail
 with_reducible refine(C1.o _ w9.o).mono ?_
 rintro e W1 ⟨rfl,hb⟩;clear u6 wo;obtain ⟨K1,K2,K3,K4⟩:=aW hb K1 K2 K3 K4;have wu:=hbt w9 hb;clear hb;have u6:=K1.o.cell (i:=0) rfl;go_wp2_with fail
 with_reducible refine(C2.o _ wu.o).mono ?_
 rintro e W2 ⟨rfl,hb⟩;clear u6;obtain ⟨K2,K3,K4⟩:=bG hb K2 K3 K4;have ww:=hbt wu hb;clear hb;have mi:=K2.o.cell (i:=0) rfl;obtain ⟨si,sj⟩:=au K3.o rfl rfl;have sw:=K4.o.cell (i:=0) rfl;have ru:=K3.o.frozen (i:=0);have rM:=K3.o.frozen (i:=1);have rV:=K4.o.frozen (i:=0);go_wp2;exact bodyPost_ret (v:=.tuple #[.agg #[.string ⟨#[]⟩,.string ⟨#[]⟩],.int .i64 2]) (by simp[results,results10,go_sem,si,sj,sw]) rfl ⟨rfl,(ay (l:=[.int .i64 2]) (i:=0) (by omega) (ay (l:=[.string ⟨#[]⟩,.string ⟨#[]⟩]) (i:=0) (by omega) ww.o))⟩
theorem z6P (l u:ByteArray)(n s:Int)(w₀:World)(h1:CV w₀ 31 #[.agg #[.string l,.string u]] (.bool true))(h2:CV w₀ 18 #[.string l] (.int .i64 s))(f1:decide (s<0)=false)(h9:1000000000<n) :
 CV w₀ 10 #[.agg #[.string l,.string u],.int .i64 n] (.tuple #[.agg #[.string ⟨#[]⟩,.string ⟨#[]⟩],.int .i64 2]):=by
 intro w hw;have C1:=hid (h1.mono hw);have C2:=hid (h2.mono hw);have g1:=f1;clear f1;have e1:decide (n<1)=false:=decide_eq_false (by omega);have e2:¬ n<1:=by omega
 have e3:decide (1000000000<n)=true:=decide_eq_true h9;have e4:1000000000<n:=h9;clear h9 h1 h2 hw;go_enter func10,ntmps10
 go_upto_region 1 with fail
 refine az w [(#[.string l,.string u],24),(#[.int .i64 n],3),(#[.string ⟨#[]⟩,.string ⟨#[]⟩],24),(#[.int .i64 0],27)] rfl ?_;rintro W0 ⟨k1,k2,k3,k4,hb⟩;have w9:=hid (show Below w.heap.size w W0 from hb);obtain ⟨K1,K2,K3,K4⟩:=aM k1 k2 k3 k4;clear k1 k2 k3 k4 hb;obtain ⟨u6,wo⟩:=au K1.o rfl rfl;go_wp2_with fail
 with_reducible refine(C1.o _ w9.o).mono ?_
 rintro e W1 ⟨rfl,hb⟩;clear u6 wo;obtain ⟨K1,K2,K3,K4⟩:=aW hb K1 K2 K3 K4;have wu:=hbt w9 hb;clear hb;have u6:=K1.o.cell (i:=0) rfl;go_wp2_with fail
 with_reducible refine(C2.o _ wu.o).mono ?_
 rintro e W2 ⟨rfl,hb⟩;clear u6;obtain ⟨K2,K3,K4⟩:=bG hb K2 K3 K4;have ww:=hbt wu hb;clear hb;have mi:=K2.o.cell (i:=0) rfl;obtain ⟨si,sj⟩:=au K3.o rfl rfl;have sw:=K4.o.cell (i:=0) rfl;have ru:=K3.o.frozen (i:=0);have rM:=K3.o.frozen (i:=1);have rV:=K4.o.frozen (i:=0);go_wp2;exact bodyPost_ret (v:=.tuple #[.agg #[.string ⟨#[]⟩,.string ⟨#[]⟩],.int .i64 2]) (by simp[results,results10,go_sem,si,sj,sw]) rfl ⟨rfl,(ay (l:=[.int .i64 2]) (i:=0) (by omega) (ay (l:=[.string ⟨#[]⟩,.string ⟨#[]⟩]) (i:=0) (by omega) ww.o))⟩
theorem z6a {x s t:Nat}(h1:s*s≤x)(h2:x<(s+1)*(s+1))(h3:t*t≤x)(h4:x<(t+1)*(t+1)):t=s:=by
 rcases Nat.lt_trichotomy s t with h|h|h
 · have:=Nat.mul_le_mul (show s+1≤t from h) (show s+1≤t from h)
   omega
 · exact h.symm
 · have:=Nat.mul_le_mul (show t+1≤s from h) (show t+1≤s from h)
   omega
theorem o5lq {x:Rat}{k:Nat}(h:SmQ k x)(h0:0<k)(hk:k≤10000):LQ x:=z4m h h0 hk
theorem vX {r:Nat}(hr:ag r≤1000000):KQN 25 r ((r:Nat):Rat):=fun p c W h=>by
 refine(yU r (r:Int) 1 p c W (fun p c W h=>jc false _ r (r:Int) (by simp) hr W h) (fun W=>kQ 1 1 rfl (by decide) W) h).mono ?_;rintro e w' ⟨p,c,s,d,he,h1,h2,hb⟩;exact⟨⟨_,p,_,c,s,_,d⟩,he,⟨rfl,rfl,rfl,h1,h2⟩,hb⟩
theorem z5k {a s:Nat}(h1:s*s≤a)(h2:a<(s+1)*(s+1)):s=isq a:=(z6a (iI a).1 (iI a).2 h1 h2)
theorem vY {a:Nat}(hl:(ae a).length≤1000){v:Value}{W:World}(h:Rd .u32 W v (ae a)):Calls Tryz.prog 26 #[v] W (RNn W (isq a)):=by
 refine(z05 v a hl W h).mono ?_;rintro e w' ⟨v',s,rfl,hr,h1,h2,hb⟩;obtain rfl:=z5k h1 h2;obtain⟨p,c,rfl⟩:=RN.sh (show RN w' v' (isq a) from hr);exact⟨p,c,rfl,hr,hb⟩
theorem o5FN {k:Int}(hl:aa k≤1000):KNz 26 k (isq k.natAbs):=fun _ _ _ h=>vY hl h
theorem o5FP {x:Rat}(hl:aa x.num≤1000):KNp 26 x (isq x.num.natAbs):=fun _ _ h=>vY hl h.2.2.2.1
theorem o5FD {x:Rat}(hl:ag x.den≤1000):KNd 26 x (isq x.den):=fun _ _ h=>vY hl h.2.2.2.2
theorem o5Wh {x:Rat}{k:Int}(hk:x.num / (x.den:Int)=k)(hx:LQ x):KZq 76 x k:=by
 rintro⟨b,a,n,c,e,m,d⟩ W ⟨h1,h2,h3,h4,h5⟩
 dsimp only at *;subst h1 h2 h3;exact z5K x k hk hx _ _ _ _ W h4 h5
theorem o5Fr {n:Nat}(h1:1≤n)(h2:n≤1000000000):KS2 78 (.int .i64 1) (.int .i64 (n:Int)) ((1:Rat) / (n:Rat)):=fun W=>by
 refine(z3x 1 (n:Int) 1 ((1:Rat) / (n:Rat)).num n ((1:Rat) / (n:Rat)).den (by simp[IntKind.wrap,IntKind.bits,IntKind.signed];omega) W (fun W=>z4o 1 1 rfl (by decide) (by decide) W) (fun W=>kQ (n:Int) n rfl (by omega) W) (fun p1 c1 s2 d2 W a b=>?_)).mono ?_
 · exact rC 1 n ((1:Rat) / (n:Rat)) (by rw[Rat.mkRat_eq_div];rfl) (by omega) (by show ag 1≤50000;rw[jU];decide) (Nat.le_trans (fI (show n≤1000000000 by omega)) (by decide +kernel)) p1 c1 s2 d2 W a b
 · rintro e w' ⟨p,c,s,d,he,r1,r2,hb⟩
   exact⟨⟨_,p,_,c,s,_,d⟩,he,⟨rfl,rfl,rfl,r1,r2⟩,hb⟩
theorem n_sm {n:Nat}(h2:n≤1000000000):Sm 10 n:=by
 have h:(1000000000:Nat)<10^10:=by decide
 exact Nat.lt_of_le_of_lt h2 h
theorem vZ {n k:Nat}(h:Sm k n)(hk:1≤k):SmQ k ((n:Nat):Rat):=⟨h,(show Sm 1 1 by simp[Sm]).mono hk⟩
theorem z6c {x:Rat}{n k:Nat}(hk1:1≤k)(hk2:k≤700)(h0:0≤x)(hx:SmQ k x)(h1:1≤n)(h2:n≤1000000000):KEn 38 x (.int .i64 (n:Int)) ((eK x n:Rat) / (n:Rat)) ((eH x n:Rat) / (n:Rat)):=by
 have sn:=n_sm h2;have qn:SmQ 10 ((n:Nat):Rat):=vZ sn (by decide);have qm:=qn.mul qn;have qp:=hx.mul qm;have n0:((n:Nat):Rat)≠0:=fU h1;have lp:LQ (x*((n:Rat)*(n:Rat))):=o5lq qp (by omega) (by omega);have ln:LQ ((n:Nat):Rat):=o5lq qn (by decide) (by decide);have hpos:0≤x*((n:Rat)*(n:Rat)):=Rat.mul_nonneg h0 (Rat.mul_nonneg (dR n) (dR n));obtain⟨f,hf⟩:∃ f,(x*((n:Rat)*(n:Rat))).num / ((x*((n:Rat)*(n:Rat))).den:Int)=f:=⟨_,rfl⟩;have k0:0≤f:=by rw[← hf];exact Int.ediv_nonneg (Rat.num_nonneg.2 hpos) (by omega)
 have hr:isq f.natAbs=eK x n:=by
  unfold eK rk
  rw[Rat.floor_def,hf];congr 1
  omega
 have sk:=z0v h0 hx sn hk1;have qr:SmQ (k+21) ((eK x n:Nat):Rat):=vZ sk (by omega);have hI:KS 54 (.int .i64 (n:Int)) ((n:Nat):Rat):=ks (fun W=>z5M (n:Int) ((n:Nat):Rat) n rfl (by omega) rfl rfl W);have qlo:SmQ (k+31) ((eK x n:Rat) / (n:Rat)):=(qr.div qn n0).mono (by omega);have qfr:SmQ 11 ((1:Rat) / (n:Rat)):=((show SmQ 1 (1:Rat) from⟨by unfold Sm;decide,by unfold Sm;decide⟩).div qn n0).mono (by decide)
 have zk:aa f≤1000:=by
  have h:=kY qp (by omega);rw[hf]at h;exact Nat.le_trans (eF h (by omega)) (by omega)
 have HW:KQN 25 (isq f.natAbs) ((eK x n:Nat):Rat):=by
  rw[hr];exact vX (Nat.le_trans (eF sk (by omega)) (by omega))
 have hM:KQ2 28 ((n:Nat):Rat) ((n:Nat):Rat) ((n:Rat)*(n:Rat)):=kq2 (z0B _ _ _ rfl ln ln);have hP:KQ2 28 x ((n:Rat)*(n:Rat)) (x*((n:Rat)*(n:Rat))):=kq2 (z0B _ _ _ rfl (o5lq hx (by omega) (by omega)) (o5lq qm (by decide) (by decide)));have hD:KQ2 24 ((eK x n:Nat):Rat) ((n:Nat):Rat) ((eK x n:Rat) / (n:Rat)):=kq2 (z5N _ _ _ rfl n0 (o5lq qr (by omega) (by omega)) ln);have hA:KQ2 77 ((eK x n:Rat) / (n:Rat)) ((1:Rat) / (n:Rat)) ((eK x n:Rat) / (n:Rat)+1 / (n:Rat)):=kq2 (z6C _ _ _ rfl (o5lq qlo (by omega) (by omega)) (o5lq qfr (by decide) (by decide)));have hS:KQ2 28 ((eK x n:Rat) / (n:Rat)) ((eK x n:Rat) / (n:Rat)) ((eK x n:Rat) / (n:Rat)*((eK x n:Rat) / (n:Rat))):=kq2 (z0B _ _ _ rfl (o5lq qlo (by omega) (by omega)) (o5lq qlo (by omega) (by omega)));have hC:=kp2 (z4M ((eK x n:Rat) / (n:Rat)*((eK x n:Rat) / (n:Rat))) x _ rfl (o5lq (qlo.mul qlo) (by omega) (by omega)) (o5lq hx (by omega) (by omega)));intro q W r
 cases he:eX x n with
 | true =>
   obtain⟨e1,e2⟩:=e_ex h0 h1 he;rw[e1];exact xY x _ _ _ _ _ _ _ _ (n:Int) f _ _ true q W (by rw[lL.2 e2];rfl) hI hM hP (o5Wh hf lp) (o5FN zk) HW hD (o5Fr h1 h2) hA hS hC r
 | false =>
   obtain⟨e1,e2,_⟩:=e_ne h0 h1 he
   have h:=xY x _ _ _ _ _ _ _ _ (n:Int) f _ _ false q W (by
    rw[beq_eq_false_iff_ne];intro h;have:=lL.1 h
    grind) hI hM hP (o5Wh hf lp) (o5FN zk) HW hD (o5Fr h1 h2) hA hS hC r
   rw[show cond false ((eK x n:Rat) / (n:Rat)) ((eK x n:Rat) / (n:Rat)+1 / (n:Rat))=(eH x n:Rat) / (n:Rat) by show(eK x n:Rat) / (n:Rat)+1 / (n:Rat)=(eH x n:Rat) / (n:Rat);rw[e1];grind]at h;exact h
theorem o5To {x:Rat}{k:Nat}(hx:SmQ k x)(hk:k≤900):KP1 29 x (.string (Sq x)):=kp1 (sQTo x _ rfl (hx.mono (Nat.le_trans hk (by decide))))
theorem z1d (n:Int):KPs 36 (.int .i64 n) (.bool (decide (1≤n∧n≤1000000000))):=fun W=>by
 by_cases h1:n<1
 · rw[decide_eq_false (fun h=>by omega)]
   have e1:decide (1≤n)=false:=decide_eq_false (by omega);have e2:¬ 1≤n:=by omega
   clear h1;go_enter func36,ntmps36
   go_wp2;go_ret
   exact⟨rfl,Below.refl _ _⟩
 · by_cases h2:1000000000<n
   · rw[decide_eq_false (fun h=>by omega)]
     have e1:decide (1≤n)=true:=decide_eq_true (by omega);have e2:1≤n:=by omega
     have e3:decide (n≤1000000000)=false:=decide_eq_false (by omega);have e4:¬ n≤1000000000:=by omega
     clear h1 h2;go_enter func36,ntmps36
     go_wp2;go_ret
     exact⟨rfl,Below.refl _ _⟩
   · rw[decide_eq_true (⟨by omega,by omega⟩:1≤n∧n≤1000000000)]
     have e1:decide (1≤n)=true:=decide_eq_true (by omega);have e2:1≤n:=by omega
     have e3:decide (n≤1000000000)=true:=decide_eq_true (by omega);have e4:n≤1000000000:=by omega
     clear h1 h2;go_enter func36,ntmps36
     go_wp2;go_ret
     exact⟨rfl,Below.refl _ _⟩
theorem z6b {x:Rat}(h:x<0):decide (cmpQ x 0<0)=true:=by rw[sU h];rfl
theorem z5a (a:ByteArray)(ha:a.size≤40)(w:World)(hla:La w):∃ z b er,CV w 6 #[.string a] (.tuple #[.string z,.bool b,.int .i64 er])∧CV w 7 #[.string a] (.tuple #[.string z,.bool b,.int .i64 er]):=by
 rcases g1 a ha with⟨x,rfl,hx⟩|hv
 · by_cases h0:0≤x
   · have lx:LQ x:=glq hx
     have q1:=Nat.le_trans (eF hx.1 (by decide)) (show 40≤1000 by decide);have q2:=Nat.le_trans (eF hx.2 (by decide)) (show 40≤1000 by decide);have s1:SmQ 40 ((isq x.num.natAbs:Nat):Rat):=vZ (Sm.le hx.1 (kC _)) (by decide);have s2:SmQ 40 ((isq x.den:Nat):Rat):=vZ (Sm.le hx.2 (kC _)) (by decide);have d0:((isq x.den:Nat):Rat)≠0:=fU (jo x);have sr:=rA hx (by decide);have hD:KQ2 24 ((isq x.num.natAbs:Nat):Rat) ((isq x.den:Nat):Rat) (iC x):=kq2 (z5N _ _ _ rfl d0 (glq s1) (glq s2));have hM:KQ2 28 (iC x) (iC x) (iC x*iC x):=kq2 (z0B _ _ _ rfl (o5lq sr (by decide) (by decide)) (o5lq sr (by decide) (by decide)));have hC:=kp2 (z4M (iC x*iC x) x _ rfl (o5lq (sr.mul sr) (by decide) (by decide)) lx);have W1:KQN 25 (isq x.num.natAbs) ((isq x.num.natAbs:Nat):Rat):=vX (Nat.le_trans (eF s1.1 (by decide)) (by decide));have W2:KQN 25 (isq x.den) ((isq x.den:Nat):Rat):=vX (Nat.le_trans (eF s2.1 (by decide)) (by decide));by_cases he:iC x*iC x=x
     · exact⟨_,_,_,qD h0 hx (by decide) (by decide) he w hla,fun W _=>z0N _ x _ _ _ _ _ _ _ _ _ true W (cZ h0) (by rw[lL.2 he];rfl) (gF hx) (gSgn x) (o5FP q1) W1 (o5FD q2) W2 hD hM hC (o5To sr (by decide))⟩
     · exact⟨_,_,_,zD h0 hx (by decide) (by decide) he w hla,fun W _=>z0N _ x _ _ _ _ _ _ _ _ _ false W (cZ h0) (by rw[beq_eq_false_iff_ne];exact fun h=>he (lL.1 h)) (gF hx) (gSgn x) (o5FP q1) W1 (o5FD q2) W2 hD hM hC (o5To sr (by decide))⟩
   · exact⟨_,_,_,zF (by grind) hx (by decide) w hla,fun W _=>z4U _ x _ W (z6b (by grind)) (gF hx) (gSgn x)⟩
 · obtain⟨x,hx⟩:=z1A ha hv
   exact⟨_,_,_,z1b a w (fun W hW=>z0P a hv (by omega) W (hla.on hW)),fun W _=>z5T a x W hx⟩
theorem z6Q {a b:Rat}(ha:SmQ 90 a)(hb:SmQ 90 b):KI2 37 a b (.agg #[.string (Sq a),.string (Sq b)]):=fun p q W h1 h2=>gTo a b _ _ p q W (o5To ha (by decide)) (o5To hb (by decide)) h1 h2
theorem pOf5 (l u:ByteArray)(n:Int)(hl:l.size≤40)(hu:u.size≤40)(w:World)(hla:La w):∃ s t er,CV w 10 #[.agg #[.string l,.string u],.int .i64 n] (.tuple #[.agg #[.string s,.string t],.int .i64 er])∧CV w 11 #[.agg #[.string l,.string u],.int .i64 n] (.tuple #[.agg #[.string s,.string t],.int .i64 er]):=by
 obtain⟨b1,xa,xb,F1,V1,E1⟩:=pIV l u hl hu;have cv:CV w 31 #[.agg #[.string l,.string u]] (.bool b1):=fun W hW=>V1 W (hla.on hW)
 cases b1 with
 | false=>exact⟨_,_,_,z5Y l u n w cv,fun W _=>z5S l u n xa xb W F1⟩
 | true =>
   obtain⟨rfl,rfl,ha,hb,hab⟩:=E1 rfl;by_cases h0:0≤xa
   · have sg:=iM ha (by decide) w hla
     by_cases h1:n<1
     · have G:=z1d n
       rw[decide_eq_false (fun h=>by omega)]at G;exact⟨_,_,_,z6O _ _ n _ w cv sg (cZ h0) h1,fun W _=>xX _ _ n xa xb _ W (cZ h0) F1 (gSgn xa) G⟩
     by_cases h2:1000000000<n
     · have G:=z1d n
       rw[decide_eq_false (fun h=>by omega)]at G;exact⟨_,_,_,z6P _ _ n _ w cv sg (cZ h0) h2,fun W _=>xX _ _ n xa xb _ W (cZ h0) F1 (gSgn xa) G⟩
     have G:=z1d n;rw[decide_eq_true (⟨by omega,by omega⟩:1≤n∧n≤1000000000)]at G;obtain⟨m,rfl⟩:∃ m:Nat,n=(m:Int):=⟨n.toNat,by omega⟩;have m1:1≤m:=by omega
     have m2:m≤1000000000:=by omega
     have sn:=n_sm m2;have qn:SmQ 10 ((m:Nat):Rat):=vZ sn (by decide);have t0:0≤xb:=by grind
     have s1:SmQ 90 ((eK xa m:Rat) / (m:Rat)):=((vZ (z0v h0 ha sn (by decide)) (by decide)).div qn (fU m1)).mono (by decide);have s2:SmQ 90 ((eH xb m:Rat) / (m:Rat)):=((vZ (z6A t0 hb sn (by decide)) (by decide)).div qn (fU m1)).mono (by decide);exact⟨_,_,_,z5f h0 hab ha hb (by decide) (by decide) m1 m2 w hla,fun W _=>z5R _ _ _ xa xb _ _ _ _ _ _ _ W (cZ h0) F1 (gSgn xa) G (z6c (by decide) (by decide) h0 ha m1 m2) (z6c (by decide) (by decide) t0 hb m1 m2) (z6Q s1 s2)⟩
   · have sg:=iM ha (by decide) w hla
     rw[sU (by grind)]at sg;exact⟨_,_,_,z5e _ _ n w cv sg,fun W _=>z4T _ _ n xa xb _ W (z6b (by grind)) F1 (gSgn xa)⟩
theorem um (a s t:ByteArray)(n er:Int)(w₀:World)(h1:CV w₀ 11 #[.agg #[.string a,.string a],.int .i64 n] (.tuple #[.agg #[.string s,.string t],.int .i64 er]))  :
 CV w₀ 9 #[.string a,.int .i64 n] (.tuple #[.agg #[.string s,.string t],.int .i64 er]):=by
 intro w hw;have C1:=hid (h1.mono hw);clear h1 hw;go_enter func9,ntmps9
 go_upto_region 1 with fail
 refine az w [(#[.string ⟨#[]⟩,.string ⟨#[]⟩],24)] rfl ?_;rintro W0 ⟨k1,hb⟩;have w9:=hid (show Below w.heap.size w W0 from hb);have K1:=hid k1;clear k1 hb;go_wp2_with fail
 with_reducible refine(C1.o _ w9.o).mono ?_
 rintro e W1 ⟨rfl,hb⟩;have K1:=hid (K1.o.below hb);have wu:=hbt w9 hb;clear hb;obtain ⟨u6,wo⟩:=au K1.o rfl rfl;obtain ⟨l6,lg⟩:=bJ K1.o;go_wp2;exact bodyPost_ret (v:=.tuple #[.agg #[.string s,.string t],.int .i64 er]) (by simp[results,results9,go_sem,u6,wo]) rfl ⟨rfl,(ay (l:=[.string s,.string t]) (i:=0) (by omega) wu.o)⟩
theorem z5U (a:ByteArray)(n:Int)(ha:a.size≤40)(w:World)(hla:La w):∃ s t er,CV w 8 #[.string a,.int .i64 n] (.tuple #[.agg #[.string s,.string t],.int .i64 er])∧CV w 9 #[.string a,.int .i64 n] (.tuple #[.agg #[.string s,.string t],.int .i64 er]):=by
 rcases g1 a ha with⟨x,rfl,hx⟩|hv
 · obtain⟨s,t,er,k1,k2⟩:=pOf5 (Sq x) (Sq x) n ha ha w hla
   exact⟨s,t,er,uz _ _ _ _ _ w (fun W hW=>z4c x (g40 hx) W (hla.on hW)) k1,um _ _ _ _ _ w k2⟩
 · obtain⟨x,hx⟩:=z1A ha hv
   refine⟨_,_,_,z3b a n w (z1t a w (qvn hv (by omega) w hla)),um _ _ _ _ _ w (fun W _=>z5S a a n x x W (fun W=>sJ a a x x false W hx hx))⟩
open Go.Lib (hid)
theorem z2L (x l u:ByteArray)(n:Int)(w₀:World)  (hla:Lb w₀)(fl:decide (40<x.size∨40<l.size∨40<u.size)=true) :
 CV w₀ 3 #[.string x,.agg #[.string l,.string u],.int .i64 n] (.bool true):=by
 intro w hw;have HT:=hid (mF hla hw);have FL:=hid fl;clear hla fl hw;go_enter func3,ntmps3
 go_upto_region 1 with fail
 refine az w [(#[.string l,.string u],24)] rfl ?_;rintro W0 ⟨k1,hb⟩;have w9:=hid (show Below w.heap.size w W0 from hb);have K1:=hid k1;clear k1 hb;go_wp2_with fail
 with_reducible refine((mh _ (mF HT.o w9.o)).at).mono ?_
 rintro e W1 ⟨rfl,hb⟩;have K1:=hid (K1.o.below hb);have wu:=hbt w9 hb;clear hb;obtain ⟨u6,wo⟩:=au K1.o rfl rfl;go_wp2_with fail
 have hb:=jO W1 (.cells #[.string x,.string l,.string u] 22);have k2:=SBk.new W1 #[.string x,.string l,.string u] 22;generalize W1.alloc (.cells #[.string x,.string l,.string u] 22)=W2 at *;have ww:=hbt wu hb;have K2:=hid k2;clear k2 hb;with_reducible refine((lgx3 _ x l u true _ FL.o K2.o)).mono ?_
 rintro e W3 ⟨rfl,hb⟩;clear u6 wo;have r9:=hbt ww hb;clear hb;go_wp2_with fail
 with_reducible refine((mh _ (mF HT.o r9.o)).at).mono ?_
 rintro e W4 ⟨rfl,hb⟩;have rq:=hbt r9 hb;clear hb;go_wp2;exact bodyPost_ret (v:=.bool true) (by simp[results,results3,go_sem]) rfl ⟨rfl,rq.o⟩
theorem z4Q (x l u:ByteArray)(n:Int)(z s2 t2 s3 t3:ByteArray)(b:Bool)(e1 e2 e3:Int)(w₀:World)(h1:CV w₀ 6 #[.string x] (.tuple #[.string z,.bool b,.int .i64 e1]))(h2:CV w₀ 7 #[.string x] (.tuple #[.string z,.bool b,.int .i64 e1]))(h3:CV w₀ 8 #[.string x,.int .i64 n] (.tuple #[.agg #[.string s2,.string t2],.int .i64 e2]))(h4:CV w₀ 9 #[.string x,.int .i64 n] (.tuple #[.agg #[.string s2,.string t2],.int .i64 e2]))(h5:CV w₀ 10 #[.agg #[.string l,.string u],.int .i64 n] (.tuple #[.agg #[.string s3,.string t3],.int .i64 e3]))(h6:CV w₀ 11 #[.agg #[.string l,.string u],.int .i64 n] (.tuple #[.agg #[.string s3,.string t3],.int .i64 e3]))(hla:Lb w₀)(fl:decide (40<x.size∨40<l.size∨40<u.size)=false) :
 CV w₀ 3 #[.string x,.agg #[.string l,.string u],.int .i64 n] (.bool true):=by
 intro w hw;obtain ⟨C1,C2,C3,C4,C5,C6,HT,FL⟩:=jY (h1.mono hw) (h2.mono hw) (h3.mono hw) (h4.mono hw) (h5.mono hw) (h6.mono hw) (mF hla hw) fl;clear hla fl h1 h2 h3 h4 h5 h6 hw;go_enter func3,ntmps3
 go_upto_region 1 with fail
 refine az w [(#[.string l,.string u],24)] rfl ?_;rintro W0 ⟨k1,hb⟩;have w9:=hid (show Below w.heap.size w W0 from hb);have K1:=hid k1;clear k1 hb;go_wp2_with fail
 with_reducible refine((mh _ (mF HT.o w9.o)).at).mono ?_
 rintro e W1 ⟨rfl,hb⟩;have K1:=hid (K1.o.below hb);have wu:=hbt w9 hb;clear hb;obtain ⟨u6,wo⟩:=au K1.o rfl rfl;go_wp2_with fail
 have hb:=jO W1 (.cells #[.string x,.string l,.string u] 22);have k2:=SBk.new W1 #[.string x,.string l,.string u] 22;generalize W1.alloc (.cells #[.string x,.string l,.string u] 22)=W2 at *;have K1:=hid (K1.o.below hb);have ww:=hbt wu hb;have K2:=hid k2;clear k2 hb;with_reducible refine((lgx3 _ x l u false _ FL.o K2.o)).mono ?_
 rintro e W3 ⟨rfl,hb⟩;clear u6 wo;obtain ⟨K1,K2⟩:=aH hb K1 K2;have r9:=hbt ww hb;clear hb;go_wp2_with fail
 with_reducible refine(C1.o _ r9.o).mono ?_
 rintro e W4 ⟨rfl,hb⟩;obtain ⟨K1,K2⟩:=aH hb K1 K2;have rq:=hbt r9 hb;clear hb;go_wp2_with fail
 with_reducible refine(C2.o _ rq.o).mono ?_
 rintro e W5 ⟨rfl,hb⟩;obtain ⟨K1,K2⟩:=aH hb K1 K2;have p8:=hbt rq hb;clear hb;go_wp2_with fail
 with_reducible refine(C3.o _ p8.o).mono ?_
 rintro e W6 ⟨rfl,hb⟩;obtain ⟨K1,K2⟩:=aH hb K1 K2;have p9:=hbt p8 hb;clear hb;go_upto_region 6 with fail
 refine az W6 [(#[.string s2,.string t2],24)] rfl ?_;have L1:=K1.o.lt;have L2:=K2.o.lt;have L3:=p9.o.size;rintro W7 ⟨k3,hb⟩;have hb:Below W6.heap.size W6 W7:=hb;obtain ⟨K1,K2⟩:=aH hb K1 K2;have pq:=hbt p9 hb;have K3:=hid k3;clear k3 hb;go_wp2_with fail
 with_reducible refine(C4.o _ pq.o).mono ?_
 rintro e W8 ⟨rfl,hb⟩;obtain ⟨K1,K2,K3⟩:=bG hb K1 K2 K3;have pu:=hbt pq hb;clear hb;go_upto_region 7 with fail
 refine az W8 [(#[.string s2,.string t2],24)] rfl ?_;have L4:=K1.o.lt;have L5:=K2.o.lt;have L6:=K3.o.lt;have L7:=pu.o.size;rintro W9 ⟨k4,hb⟩;have hb:Below W8.heap.size W8 W9:=hb;obtain ⟨K1,K2,K3⟩:=bG hb K1 K2 K3;have ol:=hbt pu hb;have K4:=hid k4;clear k4 hb;obtain ⟨u6,wo⟩:=au K1.o rfl rfl;go_wp2_with fail
 with_reducible refine(C5.o _ ol.o).mono ?_
 rintro e W10 ⟨rfl,hb⟩;clear u6 wo;obtain ⟨K1,K2,K3,K4⟩:=aW hb K1 K2 K3 K4;have oM:=hbt ol hb;clear hb;go_upto_region 8 with fail
 refine az W10 [(#[.string s3,.string t3],24)] rfl ?_;have L8:=K1.o.lt;have L9:=K2.o.lt;have L10:=K3.o.lt;have L11:=K4.o.lt;have L12:=oM.o.size;rintro W11 ⟨k5,hb⟩;have hb:Below W10.heap.size W10 W11:=hb;obtain ⟨K1,K2,K3,K4⟩:=aW hb K1 K2 K3 K4;have oV:=hbt oM hb;have K5:=hid k5;clear k5 hb;obtain ⟨u6,wo⟩:=au K1.o rfl rfl;go_wp2_with fail
 with_reducible refine(C6.o _ oV.o).mono ?_
 rintro e W12 ⟨rfl,hb⟩;clear u6 wo;obtain ⟨K1,K2,K3,K4,K5⟩:=gp hb K1 K2 K3 K4 K5;have mf:=hbt oV hb;clear hb;go_upto_region 9 with fail
 refine az W12 [(#[.string s3,.string t3],24)] rfl ?_;have L13:=K1.o.lt;have L14:=K2.o.lt;have L15:=K3.o.lt;have L16:=K4.o.lt;have L17:=K5.o.lt;have L18:=mf.o.size;rintro W13 ⟨k6,hb⟩;have hb:Below W12.heap.size W12 W13:=hb;obtain ⟨K3,K4,K5⟩:=bG hb K3 K4 K5;have l5:=hbt mf hb;have K6:=hid k6;clear k6 hb;obtain ⟨si,sj⟩:=au K3.o rfl rfl;obtain ⟨sw,lv⟩:=au K4.o rfl rfl;obtain ⟨kz,kM⟩:=au K5.o rfl rfl;obtain ⟨kS,kV⟩:=au K6.o rfl rfl;go_wp2;exact bodyPost_ret (v:=.bool true) (by simp[results,results3,go_sem]) rfl ⟨rfl,l5.o⟩
theorem rF (x l u:ByteArray)(n:Int)(_h1 : -9223372036854775808≤n)(_h2:n≤9223372036854775807)(w:World)(hl:Lb w) :
 CR 3 #[.string x,.agg #[.string l,.string u],.int .i64 n] w (.bool true):=by
 cases hf:decide (40<x.size∨40<l.size∨40<u.size) with
 | true=>exact(z2L x l u n w hl hf).at
 | false =>
   have h:=of_decide_eq_false hf;obtain⟨z,b,e1,k1,k2⟩:=z5a x (by omega) w hl.1;obtain⟨s2,t2,e2,k3,k4⟩:=z5U x n (by omega) w hl.1;obtain⟨s3,t3,e3,k5,k6⟩:=pOf5 l u n (by omega) (by omega) w hl.1;exact(z4Q x l u n z s2 t2 s3 t3 b e1 e2 e3 w k1 k2 k3 k4 k5 k6 hl hf).at
