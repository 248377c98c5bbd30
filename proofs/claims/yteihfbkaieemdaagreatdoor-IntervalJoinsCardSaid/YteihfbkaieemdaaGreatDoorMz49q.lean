/- texts -/
import Derived.Test.YteihfbkaieemdaaGreatDoorCn
import Derived.Test.YteihfbkaieemdaaGreatDoorMz47q
import Derived.Test.YteihfbkaieemdaaGreatDoorMz48q
open Go.Proofs.Tryz
set_option maxRecDepth 100000
set_option maxHeartbeats 20000000
open Go.Lib (hid)
namespace Go.Proofs.YteihfbkaieemdaaGreatDoor
open Go.RowKit Go.Gb
theorem z2l (l u m n:ByteArray)(w₀:World)(h1:CV w₀ 27 #[.agg #[.string l,.string u]] (.bool false))  :
 CV w₀ 17 #[.agg #[.string l,.string u],.agg #[.string m,.string n]] (.tuple #[.agg #[.string ⟨#[]⟩,.string ⟨#[]⟩],.bool false]):=by
 intro w hw;have C1:=hid (h1.mono hw);clear h1 hw;go_enter func17,ntmps17
 go_upto_region 1 with fail
 refine az w [(#[.string l,.string u],24),(#[.string m,.string n],24),(#[.string ⟨#[]⟩,.string ⟨#[]⟩],24)] rfl ?_;rintro W0 ⟨k1,k2,k3,hb⟩;have wm:=hid (show Below w.heap.size w W0 from hb);obtain ⟨K1,K2,K3⟩:=ak k1 k2 k3;clear k1 k2 k3 hb;obtain ⟨u6,w9⟩:=av K1.o rfl rfl;go_wp2_with fail
 with_reducible refine(C1.o _ wm.o).mono ?_
 rintro e W1 ⟨rfl,hb⟩;clear u6 w9;have K3:=hid (K3.o.below hb);have ww:=hbt wm hb;clear hb;obtain ⟨mi,l5⟩:=av K3.o rfl rfl;obtain ⟨lv,kz⟩:=bF K3.o;go_wp2;exact bodyPost_ret (v:=.tuple #[.agg #[.string ⟨#[]⟩,.string ⟨#[]⟩],.bool false]) (by simp[results,results17,go_sem,mi,l5]) rfl ⟨rfl,(ay (l:=[.string ⟨#[]⟩,.string ⟨#[]⟩]) (i:=0) (by omega) ww.o)⟩
theorem z2k (l u m n:ByteArray)(w₀:World)(h1:CV w₀ 27 #[.agg #[.string l,.string u]] (.bool true))(h2:CV w₀ 27 #[.agg #[.string m,.string n]] (.bool false))  :
 CV w₀ 17 #[.agg #[.string l,.string u],.agg #[.string m,.string n]] (.tuple #[.agg #[.string ⟨#[]⟩,.string ⟨#[]⟩],.bool false]):=by
 intro w hw;have C1:=hid (h1.mono hw);have C2:=hid (h2.mono hw);clear h1 h2 hw;go_enter func17,ntmps17
 go_upto_region 1 with fail
 refine az w [(#[.string l,.string u],24),(#[.string m,.string n],24),(#[.string ⟨#[]⟩,.string ⟨#[]⟩],24)] rfl ?_;rintro W0 ⟨k1,k2,k3,hb⟩;have wm:=hid (show Below w.heap.size w W0 from hb);obtain ⟨K1,K2,K3⟩:=ak k1 k2 k3;clear k1 k2 k3 hb;obtain ⟨u6,w9⟩:=av K1.o rfl rfl;go_wp2_with fail
 with_reducible refine(C1.o _ wm.o).mono ?_
 rintro e W1 ⟨rfl,hb⟩;clear u6 w9;obtain ⟨K2,K3⟩:=aP hb K2 K3;have ww:=hbt wm hb;clear hb;obtain ⟨wo,wu⟩:=av K2.o rfl rfl;go_wp2_with fail
 with_reducible refine(C2.o _ ww.o).mono ?_
 rintro e W2 ⟨rfl,hb⟩;clear wo wu;have K3:=hid (K3.o.below hb);have sw:=hbt ww hb;clear hb;obtain ⟨mi,l5⟩:=av K3.o rfl rfl;obtain ⟨lv,kz⟩:=bF K3.o;go_wp2;exact bodyPost_ret (v:=.tuple #[.agg #[.string ⟨#[]⟩,.string ⟨#[]⟩],.bool false]) (by simp[results,results17,go_sem,mi,l5]) rfl ⟨rfl,(ay (l:=[.string ⟨#[]⟩,.string ⟨#[]⟩]) (i:=0) (by omega) sw.o)⟩
theorem z2i (l u:ByteArray)(n:Int)(w₀:World)(h1:CV w₀ 27 #[.agg #[.string l,.string u]] (.bool false))  :
 CV w₀ 22 #[.agg #[.string l,.string u],.int .i64 n] (.tuple #[.agg #[.string ⟨#[]⟩,.string ⟨#[]⟩],.int .i64 1]):=by
 intro w hw;have C1:=hid (h1.mono hw);clear h1 hw;go_enter func22,ntmps22
 go_upto_region 1 with fail
 refine az w [(#[.string l,.string u],24),(#[.string ⟨#[]⟩,.string ⟨#[]⟩],24)] rfl ?_;rintro W0 ⟨k1,k2,hb⟩;have wm:=hid (show Below w.heap.size w W0 from hb);have K1:=hid k1;have K2:=hid k2;clear k1 k2 hb;obtain ⟨u6,w9⟩:=av K1.o rfl rfl;go_wp2_with fail
 with_reducible refine(C1.o _ wm.o).mono ?_
 rintro e W1 ⟨rfl,hb⟩;clear u6 w9;have K2:=hid (K2.o.below hb);have ww:=hbt wm hb;clear hb;obtain ⟨wo,wu⟩:=av K2.o rfl rfl;obtain ⟨kM,kV⟩:=bF K2.o;go_wp2;exact bodyPost_ret (v:=.tuple #[.agg #[.string ⟨#[]⟩,.string ⟨#[]⟩],.int .i64 1]) (by simp[results,results22,go_sem,wo,wu]) rfl ⟨rfl,(ay (l:=[.string ⟨#[]⟩,.string ⟨#[]⟩]) (i:=0) (by omega) ww.o)⟩
theorem z2h (l u:ByteArray)(n:Int)(w₀:World)(h1:CV w₀ 27 #[.agg #[.string l,.string u]] (.bool true))(h9:n<1∨1000000000<n) :
 CV w₀ 22 #[.agg #[.string l,.string u],.int .i64 n] (.tuple #[.agg #[.string ⟨#[]⟩,.string ⟨#[]⟩],.int .i64 2]):=by
 rcases h9 with h9|h9<;>(
  intro w hw;have C1:=hid (h1.mono hw);try have e1:decide (n<1)=true:=decide_eq_true (by omega)
  try have e1:decide (n<1)=false:=decide_eq_false (by omega)
  try have e2:n<1:=by omega
  try have e2:¬ n<1:=by omega
  try have e3:decide (1000000000<n)=true:=decide_eq_true (by omega)
  try have e4:1000000000<n:=by omega
  clear h9 h1 hw;go_enter func22,ntmps22
  go_upto_region 1 with fail
  refine az w [(#[.string l,.string u],24),(#[.string ⟨#[]⟩,.string ⟨#[]⟩],24)] rfl ?_;rintro W0 ⟨k1,k2,hb⟩;have wm:=hid (show Below w.heap.size w W0 from hb);have K1:=hid k1;have K2:=hid k2;clear k1 k2 hb;obtain ⟨u6,w9⟩:=av K1.o rfl rfl;go_wp2_with fail
  with_reducible refine(C1.o _ wm.o).mono ?_
  rintro e W1 ⟨rfl,hb⟩;clear u6 w9;have K2:=hid (K2.o.below hb);have ww:=hbt wm hb;clear hb;obtain ⟨wo,wu⟩:=av K2.o rfl rfl;obtain ⟨kM,kV⟩:=bF K2.o;go_wp2
  exact bodyPost_ret (v:=.tuple #[.agg #[.string ⟨#[]⟩,.string ⟨#[]⟩],.int .i64 2]) (by simp[results,results22,go_sem,wo,wu]) rfl ⟨rfl,(ay (l:=[.string ⟨#[]⟩,.string ⟨#[]⟩]) (i:=0) (by omega) ww.o)⟩)
theorem kqn {f:Nat}{v:Value}{x z:Rat}(h:∀ p1 c1 s1 d1 W,RN W (.slice p1 (aa x.num) c1) x.num.natAbs→RN W (.slice s1 (ag x.den) d1) x.den→Calls Tryz.prog f #[.agg #[.bool (ah x.num),.slice p1 (aa x.num) c1,.slice s1 (ag x.den) d1],v] W fun e w'=>∃ p c s d,e=.returned (.agg #[.bool (ah z.num),.slice p (aa z.num) c,.slice s (ag z.den) d])∧RN w' (.slice p (aa z.num) c) z.num.natAbs∧RN w' (.slice s (ag z.den) d) z.den∧Below W.heap.size W w'):KQn f x v z:=by
 rintro⟨b,a,n,c,e,m,d⟩ W ⟨h1,h2,h3,h4,h5⟩
 dsimp only at *;subst h1 h2 h3;exact(h _ _ _ _ W h4 h5).mono fun _ _ ⟨p,c,s,d,he,hr,ht,hb⟩=>⟨⟨_,p,_,c,s,_,d⟩,he,⟨rfl,rfl,rfl,hr,ht⟩,hb⟩
theorem wR {n:Int}(h1:1≤n)(h2:n≤1000000000):Sm 10 n.natAbs:=by
 have:n.natAbs<10^10:=by omega
 exact this
theorem z5f {x:Rat}{n:Int}{k:Nat}(hk:k≤400)(hx:SmQ k x)(h1:1≤n)(h2:n≤1000000000):KQn 82 x (.int .i64 n) (rdQ x n):=by
 have sn:=wR h1 h2;have qn:SmQ 10 (Rat.ofInt n):=sJ sn (by decide);have hm:SmQ (k+10) (x*Rat.ofInt n):=hx.mul qn;have ln:LQ (Rat.ofInt n):=kg qn (by decide) (by decide);have lx:LQ x:=kg (hx.mono (show k≤400 by omega)) (by decide) (by decide);have lm:LQ (x*Rat.ofInt n):=kg hm (by omega) (by omega);obtain⟨f,hf⟩:∃ f,(x*Rat.ofInt n).num / ((x*Rat.ofInt n).den:Int)=f:=⟨_,rfl⟩;have sf:SmQ (k+11) (Rat.ofInt f):=sJ (hf▸qD hm (by omega)) (by omega);have lf:LQ (Rat.ofInt f):=kg sf (by omega) (by omega);have hI:=fun W=>z4S n (Rat.ofInt n) n.toNat (by omega) (by omega) rfl rfl W
 have n0:Rat.ofInt n≠0:=by
  intro h;have:=congrArg Rat.num h;have e:(Rat.ofInt n).num=n:=rfl;rw[e]at this;have:n=0:=this;omega
 have hd:Rat.ofInt f / Rat.ofInt n=rdQ x n:=by
  unfold rdQ
  rw[hf,Rat.divInt_eq_div];rfl
 exact kqn (fun p1 c1 s1 d1 W r1 t1=>z0p x (Rat.ofInt n) (x*Rat.ofInt n) (rdQ x n) n f 1 p1 c1 s1 d1 W hI
  (fun p1 c1 s1 d1 p2 c2 s2 d2 W a b c d=>z4R x _ _ rfl lx ln p1 c1 s1 d1 p2 c2 s2 d2 W a b c d)
  (fun p1 c1 s1 d1 W a b=>z4O _ _ hf lm p1 c1 s1 d1 W a b)
  (fun W=>ma 1 1 rfl (by decide) W) hI
  (fun p1 c1 s1 d1 p2 c2 s2 d2 W a b c d=>z5y (Rat.ofInt f) (Rat.ofInt n) _ hd n0 lf ln p1 c1 s1 d1 p2 c2 s2 d2 W a b c d) r1 t1)
theorem hNeg {x:Rat}{k:Nat}(hk:k≤400)(h0:0<k)(hx:SmQ k x):KQ1 83 x (-x):=kq1 (z5w x _ rfl (kg hx h0 (by omega)))
theorem hOut {a b:Rat}{n:Int}(ha:SmQ 40 a)(hb:SmQ 40 b)(h1:1≤n)(h2:n≤1000000000):KIn 58 a b (.int .i64 n) (rdQ a n) (0-rdQ (0-b) n):=by
 have e:0-rdQ (0-b) n = -rdQ (-b) n:=by rw[show(0:Rat)-b = -b by grind];grind
 rw[e];have s:SmQ 51 (rdQ (-b) n):=z1B hb.neg (wR h1 h2) (by omega);exact fun p q W r t=>gOut a b _ _ _ _ n p q W (z5f (by decide) ha h1 h2) (hNeg (by decide) (by decide) hb) (z5f (by decide) hb.neg h1 h2) (hNeg (by decide) (by decide) s) r t
theorem z0a (a c:Rat):(exOf (row2 a c) 1).2=mstQ a c:=by
 unfold mstQ
 rcases eT a c with⟨h,e⟩|⟨h,e⟩|⟨h,e⟩<;>rw[e]
 · rw[if_neg (by decide)];exact z5K (by grind)
 · rw[if_pos (by decide)];exact z4Z (by grind)
 · rw[if_pos (by decide)];exact z4Z (by grind)
theorem z0f (a c:Rat):(exOf (row2 a c) 1).1=lstQ a c:=by
 unfold lstQ
 rcases eT a c with⟨h,e⟩|⟨h,e⟩|⟨h,e⟩<;>rw[e]
 · rw[if_pos (by decide)];exact z4Y (by grind)
 · rw[if_pos (by decide)];exact z4Y (by grind)
 · rw[if_neg (by decide)];exact z5J (by grind)
theorem z0U (x y:Rat):decide (0<cmpQ x y)=decide (y<x):=by
 rcases eT x y with⟨h,e⟩|⟨h,e⟩|⟨h,e⟩<;>rw[e,decide_eq_decide]<;>grind
theorem z4V (l u m n:ByteArray)(hl:l.size≤40)(hu:u.size≤40)(hm:m.size≤40)(hn:n.size≤40)(w:World)(hla:La w):∃ s t b,CV w 17 #[.agg #[.string l,.string u],.agg #[.string m,.string n]] (.tuple #[.agg #[.string s,.string t],.bool b])∧CV w 18 #[.agg #[.string l,.string u],.agg #[.string m,.string n]] (.tuple #[.agg #[.string s,.string t],.bool b]):=by
 obtain⟨b1,xa,xb,F1,V1,E1⟩:=pIV l u hl hu;obtain⟨b2,ya,yb,F2,V2,E2⟩:=pIV m n hm hn
 cases b1 with
 | false=>exact⟨_,_,_,z2l l u m n w (fun W hW=>V1 W (hla.on hW)),fun W _=>z0w l u m n xa xb ya yb W (z4i F1 F2 1 (Or.inr ⟨Bool.false_and _,rfl⟩))⟩
 | true =>
   cases b2 with
   | false=>exact⟨_,_,_,z2k l u m n w (fun W hW=>V1 W (hla.on hW)) (fun W hW=>V2 W (hla.on hW)),fun W _=>z0w l u m n xa xb ya yb W (z4i F1 F2 1 (Or.inr ⟨rfl,rfl⟩))⟩
   | true =>
     obtain⟨rfl,rfl,ha,hb,hab⟩:=E1 rfl;obtain⟨rfl,rfl,hc,hd,hcd⟩:=E2 rfl;have B:=z4i F1 F2 0 (Or.inl ⟨rfl,rfl,rfl⟩);have s1:=z4M ha hc;have s2:=z4N hb hd;have M:=z5e (ha.mono (by decide)) (hc.mono (by decide));have L:=z3v (hb.mono (by decide)) (hd.mono (by decide));have C:=gCmp s1 s2;have IO:=hIo (s1.mono (show 40≤100 by decide)) (s2.mono (show 40≤100 by decide));by_cases h:lstQ xb yb<mstQ xa ya
     · exact⟨_,_,_,fun W hW=>vv xa xb ya yb _ _ (z0a _ _) (z0f _ _) hab hcd h (g40 ha) (g40 hb) (g40 hc) (g40 hd) W (hla.on hW),fun W _=>tY _ _ _ _ xa xb ya yb _ _ _ _ _ true W ((z0U _ _).trans (decide_eq_true h)) B M L C IO⟩
     · exact⟨_,_,_,fun W hW=>z5b xa xb ya yb _ _ (z0a _ _) (z0f _ _) hab hcd (by grind) (g40 ha) (g40 hb) (g40 hc) (g40 hd) W (hla.on hW),fun W _=>tY _ _ _ _ xa xb ya yb _ _ _ _ _ false W ((z0U _ _).trans (decide_eq_false h)) B M L C IO⟩
theorem z3X (l u:ByteArray)(n:Int)(hl:l.size≤40)(hu:u.size≤40)(w:World)(hla:La w):∃ s t er,CV w 22 #[.agg #[.string l,.string u],.int .i64 n] (.tuple #[.agg #[.string s,.string t],.int .i64 er])∧CV w 23 #[.agg #[.string l,.string u],.int .i64 n] (.tuple #[.agg #[.string s,.string t],.int .i64 er]):=by
 obtain⟨b1,xa,xb,F1,V1,E1⟩:=pIV l u hl hu
 cases b1 with
 | false=>exact⟨_,_,_,z2i l u n w (fun W hW=>V1 W (hla.on hW)),fun W _=>z2v l u n xa xb W F1⟩
 | true =>
   by_cases h1:n<1∨1000000000<n
   · exact⟨_,_,_,z2h l u n w (fun W hW=>V1 W (hla.on hW)) h1,fun W _=>z2u l u n xa xb W h1 F1⟩
   obtain⟨rfl,rfl,ha,hb,hab⟩:=E1 rfl;have g1:1≤n:=by omega
   have g2:n≤1000000000:=by omega
   have s1:SmQ 100 (rdQ xa n):=(z1B ha (wR g1 g2) (by omega)).mono (by decide)
   have s2:SmQ 100 (0-rdQ (0-xb) n):=by
    rw[show(0:Rat)-rdQ (0-xb) n = -rdQ (-xb) n by rw[show(0:Rat)-xb = -xb by grind];grind];exact(z1B hb.neg (wR g1 g2) (by omega)).neg.mono (by decide)
   exact⟨_,_,_,fun W hW=>z3u xa xb n (by decide:40≤400) hab ha hb g1 g2 W (hla.on hW),fun W _=>z0v _ _ n xa xb _ _ _ _ W g1 g2 F1 (hOut ha hb g1 g2) (hIo s1 s2)⟩
open Go.Lib (hid)
set_option linter.unusedSimpArgs false
theorem z2a (l u m n:ByteArray)(sa:Option Addr)(k c:Nat)(z:Int)(w₀:World)  (hla:La w₀)(sz:40<l.size∨40<u.size∨40<m.size∨40<n.size) :
 CV w₀ 4 #[.agg #[.string l,.string u],.agg #[.string m,.string n],.slice sa k c,.int .i64 z] (.bool true):=by
 intro w hw;have HT:=hid (hla.on hw);have SA:=hid sz;clear hla sz hw;go_enter func4,ntmps4
 go_upto_region 1 with fail
 refine az w [(#[.string l,.string u],24),(#[.string m,.string n],24)] rfl ?_;rintro W0 ⟨k1,k2,hb⟩;have wm:=hid (show Below w.heap.size w W0 from hb);have K1:=hid k1;have K2:=hid k2;clear k1 k2 hb;go_wp2_with fail
 with_reducible refine((mo _ (HT.o.on wm.o))).mono ?_
 rintro e W1 ⟨rfl,hb⟩;obtain ⟨K1,K2⟩:=aP hb K1 K2;have ww:=hbt wm hb;clear hb;obtain ⟨u6,w9⟩:=av K1.o rfl rfl;obtain ⟨wo,wu⟩:=av K2.o rfl rfl;go_wp2_with fail
 have hb:=jL W1 (.cells #[.string l,.string u,.string m,.string n] 24);have k3:=SBk.new W1 #[.string l,.string u,.string m,.string n] 24;generalize W1.alloc (.cells #[.string l,.string u,.string m,.string n] 24)=W2 at *;have sw:=hbt ww hb;have K3:=hid k3;clear k3 hb;with_reducible refine((zg _ l u m n true (decide_eq_true SA.o) _ K3.o.lt ⟨K3.o.cell (i:=0) rfl,K3.o.cell (i:=1) rfl,K3.o.cell (i:=2) rfl,K3.o.cell (i:=3) rfl⟩)).mono ?_
 rintro e W3 ⟨rfl,hb⟩;clear u6 w9 wo wu;have si:=hbt sw hb;clear hb;go_wp2_with fail
 with_reducible refine((mo _ (HT.o.on si.o))).mono ?_
 rintro e W4 ⟨rfl,hb⟩;have sj:=hbt si hb;clear hb;go_wp2;exact bodyPost_ret (v:=.bool true) (by simp[results,results4,go_sem]) rfl ⟨rfl,sj.o⟩
theorem z2d (l u m n:ByteArray)(sa:Option Addr)(k c:Nat)(z:Int)(w₀:World)(h1:CV w₀ 6 #[.slice sa k c] (.bool true))(hla:La w₀)(sz:(l.size≤40∧u.size≤40)∧m.size≤40∧n.size≤40) :
 CV w₀ 4 #[.agg #[.string l,.string u],.agg #[.string m,.string n],.slice sa k c,.int .i64 z] (.bool true):=by
 intro w hw;obtain ⟨C1,HT,SA⟩:=ak (h1.mono hw) (hla.on hw) sz;clear hla sz h1 hw;go_enter func4,ntmps4
 go_upto_region 1 with fail
 refine az w [(#[.string l,.string u],24),(#[.string m,.string n],24)] rfl ?_;rintro W0 ⟨k1,k2,hb⟩;have wm:=hid (show Below w.heap.size w W0 from hb);have K1:=hid k1;have K2:=hid k2;clear k1 k2 hb;go_wp2_with fail
 with_reducible refine((mo _ (HT.o.on wm.o))).mono ?_
 rintro e W1 ⟨rfl,hb⟩;obtain ⟨K1,K2⟩:=aP hb K1 K2;have ww:=hbt wm hb;clear hb;obtain ⟨u6,w9⟩:=av K1.o rfl rfl;obtain ⟨wo,wu⟩:=av K2.o rfl rfl;go_wp2_with fail
 have hb:=jL W1 (.cells #[.string l,.string u,.string m,.string n] 24);have k3:=SBk.new W1 #[.string l,.string u,.string m,.string n] 24;generalize W1.alloc (.cells #[.string l,.string u,.string m,.string n] 24)=W2 at *;have sw:=hbt ww hb;have K3:=hid k3;clear k3 hb;with_reducible refine((zg _ l u m n false (decide_eq_false (by have:=SA.o;omega)) _ K3.o.lt ⟨K3.o.cell (i:=0) rfl,K3.o.cell (i:=1) rfl,K3.o.cell (i:=2) rfl,K3.o.cell (i:=3) rfl⟩)).mono ?_
 rintro e W3 ⟨rfl,hb⟩;clear u6 w9 wo wu;have si:=hbt sw hb;clear hb;go_wp2_with fail
 with_reducible refine(C1.o _ si.o).mono ?_
 rintro e W4 ⟨rfl,hb⟩;have sj:=hbt si hb;clear hb;go_wp2_with fail
 with_reducible refine((mo _ (HT.o.on sj.o))).mono ?_
 rintro e W5 ⟨rfl,hb⟩;have r9:=hbt sj hb;clear hb;go_wp2;exact bodyPost_ret (v:=.bool true) (by simp[results,results4,go_sem]) rfl ⟨rfl,r9.o⟩
theorem z2c (l u m n:ByteArray)(sa:Option Addr)(k c:Nat)(z:Int)(w₀:World)(h1:CV w₀ 6 #[.slice sa k c] (.bool false))(hla:La w₀)(sz:(l.size≤40∧u.size≤40)∧m.size≤40∧n.size≤40)(h8:12<k)(hq:k≠1025) :
 CV w₀ 4 #[.agg #[.string l,.string u],.agg #[.string m,.string n],.slice sa k c,.int .i64 z] (.bool true):=by
 intro w hw;obtain ⟨C1,HT,SA⟩:=ak (h1.mono hw) (hla.on hw) sz;clear hla sz;have k0:(12:Int)<(k:Int):=by omega
 have k1:((k:Int)==1025)=false:=by simp;omega
 have k2:¬ (k:Int)=1025:=by omega
 have k3:decide ((k:Int)=1025)=false:=by simp;omega
 have k4:((k:Int) != 1025)=true:=by simp;omega
 have k5:¬ k=1025:=hq;clear h8 hq h1 hw;go_enter func4,ntmps4
 go_upto_region 1 with fail
 refine az w [(#[.string l,.string u],24),(#[.string m,.string n],24)] rfl ?_;rintro W0 ⟨k1,k2,hb⟩;have wm:=hid (show Below w.heap.size w W0 from hb);have K1:=hid k1;have K2:=hid k2;clear k1 k2 hb;go_wp2_with fail
 with_reducible refine((mo _ (HT.o.on wm.o))).mono ?_
 rintro e W1 ⟨rfl,hb⟩;obtain ⟨K1,K2⟩:=aP hb K1 K2;have ww:=hbt wm hb;clear hb;obtain ⟨u6,w9⟩:=av K1.o rfl rfl;obtain ⟨wo,wu⟩:=av K2.o rfl rfl;go_wp2_with fail
 have hb:=jL W1 (.cells #[.string l,.string u,.string m,.string n] 24);have k3:=SBk.new W1 #[.string l,.string u,.string m,.string n] 24;generalize W1.alloc (.cells #[.string l,.string u,.string m,.string n] 24)=W2 at *;have sw:=hbt ww hb;have K3:=hid k3;clear k3 hb;with_reducible refine((zg _ l u m n false (decide_eq_false (by have:=SA.o;omega)) _ K3.o.lt ⟨K3.o.cell (i:=0) rfl,K3.o.cell (i:=1) rfl,K3.o.cell (i:=2) rfl,K3.o.cell (i:=3) rfl⟩)).mono ?_
 rintro e W3 ⟨rfl,hb⟩;clear u6 w9 wo wu;have si:=hbt sw hb;clear hb;go_wp2_with fail
 with_reducible refine(C1.o _ si.o).mono ?_
 rintro e W4 ⟨rfl,hb⟩;have sj:=hbt si hb;clear hb;go_wp2_with fail
 with_reducible refine((mo _ (HT.o.on sj.o))).mono ?_
 rintro e W5 ⟨rfl,hb⟩;have r9:=hbt sj hb;clear hb;go_wp2;exact bodyPost_ret (v:=.bool true) (by simp[results,results4,go_sem]) rfl ⟨rfl,r9.o⟩
theorem z4d (l u m n:ByteArray)(sa:Option Addr)(k c:Nat)(z:Int)(X:Nat→ByteArray)(s0 t0 s1 t1 s2 t2:ByteArray)(b0:Bool)(e1 e2:Int)(w₀:World)(h1:CV w₀ 6 #[.slice sa k c] (.bool false))(h4:CV w₀ 17 #[.agg #[.string l,.string u],.agg #[.string m,.string n]] (.tuple #[.agg #[.string s0,.string t0],.bool b0]))(h5:CV w₀ 18 #[.agg #[.string l,.string u],.agg #[.string m,.string n]] (.tuple #[.agg #[.string s0,.string t0],.bool b0]))(h6:CV w₀ 21 #[.slice sa k c] (.tuple #[.agg #[.string s1,.string t1],.int .i64 e1]))(h7:CV w₀ 22 #[.agg #[.string l,.string u],.int .i64 z] (.tuple #[.agg #[.string s2,.string t2],.int .i64 e2]))(h9:CV w₀ 23 #[.agg #[.string l,.string u],.int .i64 z] (.tuple #[.agg #[.string s2,.string t2],.int .i64 e2]))(hla:La w₀)(sz:(l.size≤40∧u.size≤40)∧m.size≤40∧n.size≤40)(h8:k≤12)(h2:∀ W,Below w₀.heap.size w₀ W→Calls Tryz.prog 20 #[.slice sa k c] W fun e w'=>∃ a2 c2,e=.returned (.slice a2 k c2)∧SI w' a2 k c2 X∧Below W.heap.size W w')(h3:∀ a' c' W,Below w₀.heap.size w₀ W→SI W a' k c' X→CR 19 #[.slice a' k c'] W (.tuple #[.agg #[.string s1,.string t1],.int .i64 e1])) :
 CV w₀ 4 #[.agg #[.string l,.string u],.agg #[.string m,.string n],.slice sa k c,.int .i64 z] (.bool true):=by
 intro w hw;obtain ⟨C1,C4,C5,C6,C7,C9,HT,SA⟩:=fw (h1.mono hw) (h4.mono hw) (h5.mono hw) (h6.mono hw) (h7.mono hw) (h9.mono hw) (hla.on hw) sz;have CC:=hid (fun W (hW:Below w.heap.size w W)=>h2 W (hw.trans (hW.mono hw.size)));have CG:=hid (fun a' c' W (hW:Below w.heap.size w W)=>h3 a' c' W (hw.trans (hW.mono hw.size)));clear hla sz h2 h3;have k0:¬ (12:Int)<(k:Int):=by omega
 clear h8 h1 h4 h5 h6 h7 h9 hw;go_enter func4,ntmps4
 go_upto_region 1 with fail
 refine az w [(#[.string l,.string u],24),(#[.string m,.string n],24)] rfl ?_;rintro W0 ⟨k1,k2,hb⟩;have wm:=hid (show Below w.heap.size w W0 from hb);have K1:=hid k1;have K2:=hid k2;clear k1 k2 hb;go_wp2_with fail
 with_reducible refine((mo _ (HT.o.on wm.o))).mono ?_
 rintro e W1 ⟨rfl,hb⟩;obtain ⟨K1,K2⟩:=aP hb K1 K2;have ww:=hbt wm hb;clear hb;obtain ⟨u6,w9⟩:=av K1.o rfl rfl;obtain ⟨wo,wu⟩:=av K2.o rfl rfl;go_wp2_with fail
 have hb:=jL W1 (.cells #[.string l,.string u,.string m,.string n] 24);have k3:=SBk.new W1 #[.string l,.string u,.string m,.string n] 24;generalize W1.alloc (.cells #[.string l,.string u,.string m,.string n] 24)=W2 at *;obtain ⟨K1,K2⟩:=aP hb K1 K2;have sw:=hbt ww hb;have K3:=hid k3;clear k3 hb;with_reducible refine((zg _ l u m n false (decide_eq_false (by have:=SA.o;omega)) _ K3.o.lt ⟨K3.o.cell (i:=0) rfl,K3.o.cell (i:=1) rfl,K3.o.cell (i:=2) rfl,K3.o.cell (i:=3) rfl⟩)).mono ?_
 rintro e W3 ⟨rfl,hb⟩;clear u6 w9 wo wu;obtain ⟨K1,K2,K3⟩:=bR hb K1 K2 K3;have si:=hbt sw hb;clear hb;go_wp2_with fail
 with_reducible refine(C1.o _ si.o).mono ?_
 rintro e W4 ⟨rfl,hb⟩;obtain ⟨K1,K2,K3⟩:=bR hb K1 K2 K3;have sj:=hbt si hb;clear hb;obtain ⟨u6,w9⟩:=av K1.o rfl rfl;obtain ⟨wo,wu⟩:=av K2.o rfl rfl;go_wp2_with fail
 with_reducible refine(C4.o _ sj.o).mono ?_
 rintro e W5 ⟨rfl,hb⟩;clear u6 w9 wo wu;obtain ⟨K1,K2,K3⟩:=bR hb K1 K2 K3;have r9:=hbt sj hb;clear hb;go_upto_region 4 with fail
 refine az W5 [(#[.string s0,.string t0],24)] rfl ?_;have L1:=K1.o.lt;have L2:=K2.o.lt;have L3:=K3.o.lt;have L4:=r9.o.size;rintro W6 ⟨k4,hb⟩;have hb:Below W5.heap.size W5 W6:=hb;obtain ⟨K1,K2,K3⟩:=bR hb K1 K2 K3;have rq:=hbt r9 hb;have K4:=hid k4;clear k4 hb;obtain ⟨u6,w9⟩:=av K1.o rfl rfl;obtain ⟨wo,wu⟩:=av K2.o rfl rfl;go_wp2_with fail
 with_reducible refine(C5.o _ rq.o).mono ?_
 rintro e W7 ⟨rfl,hb⟩;clear u6 w9 wo wu;obtain ⟨K1,K2,K3,K4⟩:=bB hb K1 K2 K3 K4;have ru:=hbt rq hb;clear hb;go_upto_region 5 with fail
 refine az W7 [(#[.string s0,.string t0],24)] rfl ?_;have L5:=K1.o.lt;have L6:=K2.o.lt;have L7:=K3.o.lt;have L8:=K4.o.lt;have L9:=ru.o.size;rintro W8 ⟨k5,hb⟩;have hb:Below W7.heap.size W7 W8:=hb;obtain ⟨K1,K2,K3,K4⟩:=bB hb K1 K2 K3 K4;have rM:=hbt ru hb;have K5:=hid k5;clear k5 hb;go_wp2_with fail
 with_reducible refine((CC.o _ rM.o)).mono ?_
 rintro e W9 ⟨gy,gF,rfl,rV,hb⟩;obtain ⟨K1,K2,K3,K4,K5⟩:=dV hb K1 K2 K3 K4 K5;have p8:=hbt rM hb;have RS:=hid rV;clear hb rV;go_wp2_with fail
 with_reducible refine((CG.o _ _ _ p8.o RS.o)).mono ?_
 rintro e W10 ⟨rfl,hb⟩;obtain ⟨K1,K2,K3,K4,K5⟩:=dV hb K1 K2 K3 K4 K5;have p9:=hbt p8 hb;clear hb;go_upto_region 6 with fail
 refine az W10 [(#[.string s1,.string t1],24)] rfl ?_;have L10:=K1.o.lt;have L11:=K2.o.lt;have L12:=K3.o.lt;have L13:=K4.o.lt;have L14:=K5.o.lt;have L15:=p9.o.size;rintro W11 ⟨k6,hb⟩;have hb:Below W10.heap.size W10 W11:=hb;obtain ⟨K1,K2,K3,K4,K5⟩:=dV hb K1 K2 K3 K4 K5;have pq:=hbt p9 hb;have K6:=hid k6;clear k6 hb;go_wp2_with fail
 with_reducible refine(C6.o _ pq.o).mono ?_
 rintro e W12 ⟨rfl,hb⟩;obtain ⟨K1,K2,K3,K4,K5,K6⟩:=fZ hb K1 K2 K3 K4 K5 K6;have pu:=hbt pq hb;clear hb;go_upto_region 7 with fail
 refine az W12 [(#[.string s1,.string t1],24)] rfl ?_;have L16:=K1.o.lt;have L17:=K2.o.lt;have L18:=K3.o.lt;have L19:=K4.o.lt;have L20:=K5.o.lt;have L21:=K6.o.lt;have L22:=pu.o.size;rintro W13 ⟨k7,hb⟩;have hb:Below W12.heap.size W12 W13:=hb;obtain ⟨K1,K2,K3,K4,K5,K6⟩:=fZ hb K1 K2 K3 K4 K5 K6;have ol:=hbt pu hb;have K7:=hid k7;clear k7 hb;obtain ⟨u6,w9⟩:=av K1.o rfl rfl;go_wp2_with fail
 with_reducible refine(C7.o _ ol.o).mono ?_
 rintro e W14 ⟨rfl,hb⟩;clear u6 w9;obtain ⟨K1,K2,K3,K4,K5,K6,K7⟩:=fA hb K1 K2 K3 K4 K5 K6 K7;have oM:=hbt ol hb;clear hb;go_upto_region 8 with fail
 refine az W14 [(#[.string s2,.string t2],24)] rfl ?_;have L23:=K1.o.lt;have L24:=K2.o.lt;have L25:=K3.o.lt;have L26:=K4.o.lt;have L27:=K5.o.lt;have L28:=K6.o.lt;have L29:=K7.o.lt;have L30:=oM.o.size;rintro W15 ⟨k8,hb⟩;have hb:Below W14.heap.size W14 W15:=hb;obtain ⟨K1,K2,K3,K4,K5,K6,K7⟩:=fA hb K1 K2 K3 K4 K5 K6 K7;have oV:=hbt oM hb;have K8:=hid k8;clear k8 hb;obtain ⟨u6,w9⟩:=av K1.o rfl rfl;go_wp2_with fail
 with_reducible refine(C9.o _ oV.o).mono ?_
 rintro e W16 ⟨rfl,hb⟩;clear u6 w9;obtain ⟨K1,K2,K3,K4,K5,K6,K7,K8⟩:=xI hb K1 K2 K3 K4 K5 K6 K7 K8;have mf:=hbt oV hb;clear hb;go_upto_region 9 with fail
 refine az W16 [(#[.string s2,.string t2],24)] rfl ?_;have L31:=K1.o.lt;have L32:=K2.o.lt;have L33:=K3.o.lt;have L34:=K4.o.lt;have L35:=K5.o.lt;have L36:=K6.o.lt;have L37:=K7.o.lt;have L38:=K8.o.lt;have L39:=mf.o.size;rintro W17 ⟨k9,hb⟩;have hb:Below W16.heap.size W16 W17:=hb;obtain ⟨K4,K5,K6,K7,K8⟩:=dV hb K4 K5 K6 K7 K8;have lg:=hbt mf hb;have K9:=hid k9;clear k9 hb;obtain ⟨fq,fQ⟩:=av K4.o rfl rfl;obtain ⟨ed,eX⟩:=av K5.o rfl rfl;obtain ⟨d9,dn⟩:=av K6.o rfl rfl;obtain ⟨dx,dz⟩:=av K7.o rfl rfl;obtain ⟨dX,dY⟩:=av K8.o rfl rfl;obtain ⟨cu,cO⟩:=av K9.o rfl rfl;go_wp2;exact bodyPost_ret (v:=.bool true) (by simp[results,results4,go_sem]) rfl ⟨rfl,lg.o⟩
theorem z2e (l u m n:ByteArray)(sa:Option Addr)(k c:Nat)(z:Int)(X:Nat→ByteArray)(s0 t0 s1 t1 s2 t2:ByteArray)(b0:Bool)(e1 e2:Int)(w₀:World)(h1:CV w₀ 6 #[.slice sa k c] (.bool false))(h4:CV w₀ 17 #[.agg #[.string l,.string u],.agg #[.string m,.string n]] (.tuple #[.agg #[.string s0,.string t0],.bool b0]))(h5:CV w₀ 18 #[.agg #[.string l,.string u],.agg #[.string m,.string n]] (.tuple #[.agg #[.string s0,.string t0],.bool b0]))(h6:CV w₀ 21 #[.slice sa k c] (.tuple #[.agg #[.string s1,.string t1],.int .i64 e1]))(h7:CV w₀ 22 #[.agg #[.string l,.string u],.int .i64 z] (.tuple #[.agg #[.string s2,.string t2],.int .i64 e2]))(h9:CV w₀ 23 #[.agg #[.string l,.string u],.int .i64 z] (.tuple #[.agg #[.string s2,.string t2],.int .i64 e2]))(hla:La w₀)(sz:(l.size≤40∧u.size≤40)∧m.size≤40∧n.size≤40)(hq:k=1025)(h2:∀ W,Below w₀.heap.size w₀ W→Calls Tryz.prog 20 #[.slice sa k c] W fun e w'=>∃ a2 c2,e=.returned (.slice a2 k c2)∧SI w' a2 k c2 X∧Below W.heap.size W w')(h3:∀ a' c' W,Below w₀.heap.size w₀ W→SI W a' k c' X→CR 19 #[.slice a' k c'] W (.tuple #[.agg #[.string s1,.string t1],.int .i64 e1])) :
 CV w₀ 4 #[.agg #[.string l,.string u],.agg #[.string m,.string n],.slice sa k c,.int .i64 z] (.bool true):=by
 intro w hw;obtain ⟨C1,C4,C5,C6,C7,C9,HT,SA⟩:=fw (h1.mono hw) (h4.mono hw) (h5.mono hw) (h6.mono hw) (h7.mono hw) (h9.mono hw) (hla.on hw) sz;have CC:=hid (fun W (hW:Below w.heap.size w W)=>h2 W (hw.trans (hW.mono hw.size)));have CG:=hid (fun a' c' W (hW:Below w.heap.size w W)=>h3 a' c' W (hw.trans (hW.mono hw.size)));clear hla sz h2 h3;have k0:(12:Int)<(k:Int):=by omega
 have k1:((k:Int)==1025)=true:=by simp;omega
 have k3:decide ((k:Int)=1025)=true:=by simp;omega
 have k4:((k:Int) != 1025)=false:=by simp;omega
 have k2:(k:Int)=1025:=by omega
 clear hq h1 h4 h5 h6 h7 h9 hw;go_enter func4,ntmps4
 go_upto_region 1 with fail
 refine az w [(#[.string l,.string u],24),(#[.string m,.string n],24)] rfl ?_;rintro W0 ⟨k1,k2,hb⟩;have wm:=hid (show Below w.heap.size w W0 from hb);have K1:=hid k1;have K2:=hid k2;clear k1 k2 hb;go_wp2_with fail
 with_reducible refine((mo _ (HT.o.on wm.o))).mono ?_
 rintro e W1 ⟨rfl,hb⟩;obtain ⟨K1,K2⟩:=aP hb K1 K2;have ww:=hbt wm hb;clear hb;obtain ⟨u6,w9⟩:=av K1.o rfl rfl;obtain ⟨wo,wu⟩:=av K2.o rfl rfl;go_wp2_with fail
 have hb:=jL W1 (.cells #[.string l,.string u,.string m,.string n] 24);have k3:=SBk.new W1 #[.string l,.string u,.string m,.string n] 24;generalize W1.alloc (.cells #[.string l,.string u,.string m,.string n] 24)=W2 at *;obtain ⟨K1,K2⟩:=aP hb K1 K2;have sw:=hbt ww hb;have K3:=hid k3;clear k3 hb;with_reducible refine((zg _ l u m n false (decide_eq_false (by have:=SA.o;omega)) _ K3.o.lt ⟨K3.o.cell (i:=0) rfl,K3.o.cell (i:=1) rfl,K3.o.cell (i:=2) rfl,K3.o.cell (i:=3) rfl⟩)).mono ?_
 rintro e W3 ⟨rfl,hb⟩;clear u6 w9 wo wu;obtain ⟨K1,K2,K3⟩:=bR hb K1 K2 K3;have si:=hbt sw hb;clear hb;go_wp2_with fail
 with_reducible refine(C1.o _ si.o).mono ?_
 rintro e W4 ⟨rfl,hb⟩;obtain ⟨K1,K2,K3⟩:=bR hb K1 K2 K3;have sj:=hbt si hb;clear hb;obtain ⟨u6,w9⟩:=av K1.o rfl rfl;obtain ⟨wo,wu⟩:=av K2.o rfl rfl;go_wp2_with fail
 with_reducible refine(C4.o _ sj.o).mono ?_
 rintro e W5 ⟨rfl,hb⟩;clear u6 w9 wo wu;obtain ⟨K1,K2,K3⟩:=bR hb K1 K2 K3;have r9:=hbt sj hb;clear hb;go_upto_region 4 with fail
 refine az W5 [(#[.string s0,.string t0],24)] rfl ?_;have L1:=K1.o.lt;have L2:=K2.o.lt;have L3:=K3.o.lt;have L4:=r9.o.size;rintro W6 ⟨k4,hb⟩;have hb:Below W5.heap.size W5 W6:=hb;obtain ⟨K1,K2,K3⟩:=bR hb K1 K2 K3;have rq:=hbt r9 hb;have K4:=hid k4;clear k4 hb;obtain ⟨u6,w9⟩:=av K1.o rfl rfl;obtain ⟨wo,wu⟩:=av K2.o rfl rfl;go_wp2_with fail
 with_reducible refine(C5.o _ rq.o).mono ?_
 rintro e W7 ⟨rfl,hb⟩;clear u6 w9 wo wu;obtain ⟨K1,K2,K3,K4⟩:=bB hb K1 K2 K3 K4;have ru:=hbt rq hb;clear hb;go_upto_region 5 with fail
 refine az W7 [(#[.string s0,.string t0],24)] rfl ?_;have L5:=K1.o.lt;have L6:=K2.o.lt;have L7:=K3.o.lt;have L8:=K4.o.lt;have L9:=ru.o.size;rintro W8 ⟨k5,hb⟩;have hb:Below W7.heap.size W7 W8:=hb;obtain ⟨K1,K2,K3,K4⟩:=bB hb K1 K2 K3 K4;have rM:=hbt ru hb;have K5:=hid k5;clear k5 hb;go_wp2_with fail
 with_reducible refine((CC.o _ rM.o)).mono ?_
 rintro e W9 ⟨gy,gF,rfl,rV,hb⟩;obtain ⟨K1,K2,K3,K4,K5⟩:=dV hb K1 K2 K3 K4 K5;have p8:=hbt rM hb;have RS:=hid rV;clear hb rV;go_wp2_with fail
 with_reducible refine((CG.o _ _ _ p8.o RS.o)).mono ?_
 rintro e W10 ⟨rfl,hb⟩;obtain ⟨K1,K2,K3,K4,K5⟩:=dV hb K1 K2 K3 K4 K5;have p9:=hbt p8 hb;clear hb;go_upto_region 6 with fail
 refine az W10 [(#[.string s1,.string t1],24)] rfl ?_;have L10:=K1.o.lt;have L11:=K2.o.lt;have L12:=K3.o.lt;have L13:=K4.o.lt;have L14:=K5.o.lt;have L15:=p9.o.size;rintro W11 ⟨k6,hb⟩;have hb:Below W10.heap.size W10 W11:=hb;obtain ⟨K1,K2,K3,K4,K5⟩:=dV hb K1 K2 K3 K4 K5;have pq:=hbt p9 hb;have K6:=hid k6;clear k6 hb;go_wp2_with fail
 with_reducible refine(C6.o _ pq.o).mono ?_
 rintro e W12 ⟨rfl,hb⟩;obtain ⟨K1,K2,K3,K4,K5,K6⟩:=fZ hb K1 K2 K3 K4 K5 K6;have pu:=hbt pq hb;clear hb;go_upto_region 7 with fail
 refine az W12 [(#[.string s1,.string t1],24)] rfl ?_;have L16:=K1.o.lt;have L17:=K2.o.lt;have L18:=K3.o.lt;have L19:=K4.o.lt;have L20:=K5.o.lt;have L21:=K6.o.lt;have L22:=pu.o.size;rintro W13 ⟨k7,hb⟩;have hb:Below W12.heap.size W12 W13:=hb;obtain ⟨K1,K2,K3,K4,K5,K6⟩:=fZ hb K1 K2 K3 K4 K5 K6;have ol:=hbt pu hb;have K7:=hid k7;clear k7 hb;obtain ⟨u6,w9⟩:=av K1.o rfl rfl;go_wp2_with fail
 with_reducible refine(C7.o _ ol.o).mono ?_
 rintro e W14 ⟨rfl,hb⟩;clear u6 w9;obtain ⟨K1,K2,K3,K4,K5,K6,K7⟩:=fA hb K1 K2 K3 K4 K5 K6 K7;have oM:=hbt ol hb;clear hb;go_upto_region 8 with fail
 refine az W14 [(#[.string s2,.string t2],24)] rfl ?_;have L23:=K1.o.lt;have L24:=K2.o.lt;have L25:=K3.o.lt;have L26:=K4.o.lt;have L27:=K5.o.lt;have L28:=K6.o.lt;have L29:=K7.o.lt;have L30:=oM.o.size;rintro W15 ⟨k8,hb⟩;have hb:Below W14.heap.size W14 W15:=hb;obtain ⟨K1,K2,K3,K4,K5,K6,K7⟩:=fA hb K1 K2 K3 K4 K5 K6 K7;have oV:=hbt oM hb;have K8:=hid k8;clear k8 hb;obtain ⟨u6,w9⟩:=av K1.o rfl rfl;go_wp2_with fail
 with_reducible refine(C9.o _ oV.o).mono ?_
 rintro e W16 ⟨rfl,hb⟩;clear u6 w9;obtain ⟨K1,K2,K3,K4,K5,K6,K7,K8⟩:=xI hb K1 K2 K3 K4 K5 K6 K7 K8;have mf:=hbt oV hb;clear hb;go_upto_region 9 with fail
 refine az W16 [(#[.string s2,.string t2],24)] rfl ?_;have L31:=K1.o.lt;have L32:=K2.o.lt;have L33:=K3.o.lt;have L34:=K4.o.lt;have L35:=K5.o.lt;have L36:=K6.o.lt;have L37:=K7.o.lt;have L38:=K8.o.lt;have L39:=mf.o.size;rintro W17 ⟨k9,hb⟩;have hb:Below W16.heap.size W16 W17:=hb;obtain ⟨K4,K5,K6,K7,K8⟩:=dV hb K4 K5 K6 K7 K8;have lg:=hbt mf hb;have K9:=hid k9;clear k9 hb;obtain ⟨fq,fQ⟩:=av K4.o rfl rfl;obtain ⟨ed,eX⟩:=av K5.o rfl rfl;obtain ⟨d9,dn⟩:=av K6.o rfl rfl;obtain ⟨dx,dz⟩:=av K7.o rfl rfl;obtain ⟨dX,dY⟩:=av K8.o rfl rfl;obtain ⟨cu,cO⟩:=av K9.o rfl rfl;go_wp2;exact bodyPost_ret (v:=.bool true) (by simp[results,results4,go_sem]) rfl ⟨rfl,lg.o⟩
theorem vg (l u m n:ByteArray)(a:Option Addr)(k c:Nat)(X:Nat→ByteArray)(z:Int)(_hz1 : -9223372036854775808≤z)(_hz2:z≤9223372036854775807)(w:World)(hl:La w)(hs:SI w a k c X) :
 CR 4 #[.agg #[.string l,.string u],.agg #[.string m,.string n],.slice a k c,.int .i64 z] w (.bool true):=by
 by_cases h1:40<l.size∨40<u.size∨40<m.size∨40<n.size
 · exact(z2a l u m n a k c z w hl h1).at
 have h2:(l.size≤40∧u.size≤40)∧m.size≤40∧n.size≤40:=by omega
 have few:∀ b,((List.range (k*2)).all fun j=>decide ((X j).size≤40)) = !b→CV w 6 #[.slice a k c] (.bool b):=fun b hb W hW=>rZ a k c X b hb W (hs.below hW)
 cases hf:(List.range (k*2)).all fun j=>decide ((X j).size≤40) with
 | false=>exact(z2d l u m n a k c z w (few true hf) hl h2).at
 | true =>
   by_cases hn:12<k∧k≠1025
   · exact(z2c l u m n a k c z w (few false hf) hl h2 hn.1 hn.2).at
   · have hX:∀ j,j<k*2→(X j).size≤40:=fun j hj=>by
        rw[List.all_eq_true]at hf;simpa using hf j (List.mem_range.2 hj)
     obtain⟨s1,t1,e1,k1,k2⟩:=z4W k X hX w hl;obtain⟨s0,t0,b0,k3,k4⟩:=z4V l u m n h2.1.1 h2.1.2 h2.2.1 h2.2.2 w hl;obtain⟨s2,t2,e2,k5,k6⟩:=z3X l u z h2.1.1 h2.1.2 w hl;have hc:=fun W (hW:Below w.heap.size w W)=>z5a a k c X (by omega) W (hs.below hW);by_cases h8:k≤12
     · exact(z4d l u m n a k c z X s0 t0 s1 t1 s2 t2 b0 e1 e2 w (few false hf) k3 k4 (fun W hW=>k2 a c W (hs.below hW)) k5 k6 hl h2 h8 hc k1).at
     · exact(z2e l u m n a k c z X s0 t0 s1 t1 s2 t2 b0 e1 e2 w (few false hf) k3 k4 (fun W hW=>k2 a c W (hs.below hW)) k5 k6 hl h2 (by omega) hc k1).at
