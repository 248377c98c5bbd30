/- texts -/
import Derived.Test.YteihfbkaieemdaaGreatDoorMz43q
open Go.Proofs.Tryz
namespace Go.Proofs.YteihfbkaieemdaaGreatDoor
open Go.RowKit Go.Gb
theorem rX {q:Rat}{k:Nat}(h:SmQ k q)(h0:0<k)(hk:k≤10000):LQ q:=⟨Nat.le_trans (gT h.1 h0) hk,Nat.le_trans (gT h.2 h0) hk⟩
theorem zI (a:ByteArray)(ha:a.size≤900):∃ q:Rat,∀ W,Calls Tryz.prog 71 #[.string a] W fun e w'=>∃ p c s d,e=.returned (.tuple #[.agg #[.bool (ai q.num),.slice p (ae q.num) c,.slice s (ag q.den) d],.bool (vldQ a.data.toList)])∧RN w' (.slice p (ae q.num) c) q.num.natAbs∧RN w' (.slice s (ag q.den) d) q.den∧Below W.heap.size W w':=by
 cases h:vldQ a.data.toList with
 | false=>exact⟨0,fun W=>z1o a h ha W⟩
 | true =>
   have e:=z3t h;obtain⟨q,hq⟩:∃ q,q=qval a.data.toList:=⟨_,rfl⟩;rw[← hq]at e;subst e;exact⟨q,fun W=>z5k q (zx ha (by decide)) (by omega) W⟩
set_option maxRecDepth 100000
set_option maxHeartbeats 20000000
open Go.Lib (hid)
theorem lF (x y:ByteArray)(r:Bool)(hr:(decide (40<x.size) || decide (40<y.size))=r)(w:World) :
 CR 30 #[.agg #[.string x,.string y]] w (.bool r):=by
 have HI:=hid (z0b w x y);have HB:=hid ((df w (.cells #[.string x,.string y] 24)).alloc (by simp) (.cells #[.string x,.string y] 22));have hc:=uB (w.alloc (.cells #[.string x,.string y] 24)) x y;rw[show(w.alloc (.cells #[.string x,.string y] 24)).heap.size=w.heap.size+1 by simp]at hc
 have HC:Hid (Calls Tryz.prog 31 #[.slice (some ⟨w.heap.size+1,0,none⟩) 2 2] ((w.alloc (.cells #[.string x,.string y] 24)).alloc (.cells #[.string x,.string y] 22)) fun e w'=>e=.returned (.bool r)∧((w.alloc (.cells #[.string x,.string y] 24)).alloc (.cells #[.string x,.string y] 22))=w'):=hid (by
  by_cases h:40<x.size∨40<y.size
  · have e:r=true:=by rw[← hr];simpa using h
    subst e;exact z08 _ x y _ h hc
  · have e:r=false:=by rw[← hr];simp;omega
    subst e
    exact z1K _ x y _ (by omega) (by omega) hc)
 clear hc hr;go_enter func30,ntmps30
 obtain⟨_,m0,m1⟩:=HI.o;go_wp2_with fail
 refine HC.o.mono ?_;rintro e w' ⟨rfl,rfl⟩;go_wp2;go_ret
 exact⟨rfl,HB.o⟩
theorem z4Z (g:Nat)(l1 h1:ByteArray)(w:World)(s0:(decide (40<l1.size) || decide (40<h1.size))=false)(hg:g<w.heap.size)(hc:w.cell? ⟨g,0,none⟩=some (.string l1)∧w.cell? ⟨g,1,none⟩=some (.string h1)) :
 CR 6 #[.slice (some ⟨g,0,none⟩) 1 1] w (.bool false):=by
 obtain⟨c0,c1⟩:=hc;have w9:=hid (Below.refl w.heap.size w);have K0:=hid (show ∀ W,Below w.heap.size w W→W.cell? ⟨g,0,none⟩=some (.string l1) from fun W hB=>(hB.cell (p:=⟨g,0,none⟩) hg).trans c0);have K1:=hid (show ∀ W,Below w.heap.size w W→W.cell? ⟨g,1,none⟩=some (.string h1) from fun W hB=>(hB.cell (p:=⟨g,1,none⟩) hg).trans c1);have S0:=hid s0;clear s0 hg;go_enter func6,ntmps6
 go_wp2;refine wp_loop_rounds 2 ?_;rw[rounds_succ];go_wp2_with fail
 refine(lF l1 h1 _ S0.o _).mono ?_;rintro e w1 ⟨rfl,hb⟩;have u6:=hbt w9 hb;clear hb c0 c1;have c0:=K0.o _ u6.o;have c1:=K1.o _ u6.o;go_wp2;rw[rounds_succ];go_wp2;go_ret
 exact⟨rfl,u6.o⟩
theorem yh (w:World)(l1 h1 l2 h2:ByteArray):(w.alloc (.cells #[.string l1,.string h1,.string l2,.string h2] 24)).cell? ⟨w.heap.size,0,none⟩=some (.string l1)∧(w.alloc (.cells #[.string l1,.string h1,.string l2,.string h2] 24)).cell? ⟨w.heap.size,1,none⟩=some (.string h1)∧(w.alloc (.cells #[.string l1,.string h1,.string l2,.string h2] 24)).cell? ⟨w.heap.size,2,none⟩=some (.string l2)∧(w.alloc (.cells #[.string l1,.string h1,.string l2,.string h2] 24)).cell? ⟨w.heap.size,3,none⟩=some (.string h2) :=
 ⟨(aB rfl).trans rfl,(aB rfl).trans rfl,(aB rfl).trans rfl,(aB rfl).trans rfl⟩
theorem yV (g:Nat)(l1 h1 l2 h2:ByteArray)(w:World)(s0:(decide (40<l1.size) || decide (40<h1.size))=true)(hg:g<w.heap.size)(hc:w.cell? ⟨g,0,none⟩=some (.string l1)∧w.cell? ⟨g,1,none⟩=some (.string h1)∧w.cell? ⟨g,2,none⟩=some (.string l2)∧w.cell? ⟨g,3,none⟩=some (.string h2)) :
 CR 6 #[.slice (some ⟨g,0,none⟩) 2 2] w (.bool true):=by
 obtain⟨c0,c1,c2,c3⟩:=hc;have w9:=hid (Below.refl w.heap.size w);have K0:=hid (show ∀ W,Below w.heap.size w W→W.cell? ⟨g,0,none⟩=some (.string l1) from fun W hB=>(hB.cell (p:=⟨g,0,none⟩) hg).trans c0);have K1:=hid (show ∀ W,Below w.heap.size w W→W.cell? ⟨g,1,none⟩=some (.string h1) from fun W hB=>(hB.cell (p:=⟨g,1,none⟩) hg).trans c1);have K2:=hid (show ∀ W,Below w.heap.size w W→W.cell? ⟨g,2,none⟩=some (.string l2) from fun W hB=>(hB.cell (p:=⟨g,2,none⟩) hg).trans c2);have K3:=hid (show ∀ W,Below w.heap.size w W→W.cell? ⟨g,3,none⟩=some (.string h2) from fun W hB=>(hB.cell (p:=⟨g,3,none⟩) hg).trans c3);have S0:=hid s0;clear s0 hg;go_enter func6,ntmps6
 go_wp2;refine wp_loop_rounds 3 ?_;rw[rounds_succ];go_wp2_with fail
 refine(lF l1 h1 _ S0.o _).mono ?_;rintro e w1 ⟨rfl,hb⟩;have u6:=hbt w9 hb;clear hb c0 c1 c2 c3;have c0:=K0.o _ u6.o;have c1:=K1.o _ u6.o;have c2:=K2.o _ u6.o;have c3:=K3.o _ u6.o;go_wp2;go_ret
 exact⟨rfl,u6.o⟩
theorem yU (g:Nat)(l1 h1 l2 h2:ByteArray)(w:World)(s0:(decide (40<l1.size) || decide (40<h1.size))=false)(s1:(decide (40<l2.size) || decide (40<h2.size))=true)(hg:g<w.heap.size)(hc:w.cell? ⟨g,0,none⟩=some (.string l1)∧w.cell? ⟨g,1,none⟩=some (.string h1)∧w.cell? ⟨g,2,none⟩=some (.string l2)∧w.cell? ⟨g,3,none⟩=some (.string h2)) :
 CR 6 #[.slice (some ⟨g,0,none⟩) 2 2] w (.bool true):=by
 obtain⟨c0,c1,c2,c3⟩:=hc;have w9:=hid (Below.refl w.heap.size w);have K0:=hid (show ∀ W,Below w.heap.size w W→W.cell? ⟨g,0,none⟩=some (.string l1) from fun W hB=>(hB.cell (p:=⟨g,0,none⟩) hg).trans c0);have K1:=hid (show ∀ W,Below w.heap.size w W→W.cell? ⟨g,1,none⟩=some (.string h1) from fun W hB=>(hB.cell (p:=⟨g,1,none⟩) hg).trans c1);have K2:=hid (show ∀ W,Below w.heap.size w W→W.cell? ⟨g,2,none⟩=some (.string l2) from fun W hB=>(hB.cell (p:=⟨g,2,none⟩) hg).trans c2);have K3:=hid (show ∀ W,Below w.heap.size w W→W.cell? ⟨g,3,none⟩=some (.string h2) from fun W hB=>(hB.cell (p:=⟨g,3,none⟩) hg).trans c3);have S0:=hid s0;have S1:=hid s1;clear s0 s1 hg;go_enter func6,ntmps6
 go_wp2;refine wp_loop_rounds 3 ?_;rw[rounds_succ];go_wp2_with fail
 refine(lF l1 h1 _ S0.o _).mono ?_;rintro e w1 ⟨rfl,hb⟩;have u6:=hbt w9 hb;clear hb c0 c1 c2 c3;have c0:=K0.o _ u6.o;have c1:=K1.o _ u6.o;have c2:=K2.o _ u6.o;have c3:=K3.o _ u6.o;go_wp2;rw[rounds_succ];go_wp2_with fail
 refine(lF l2 h2 _ S1.o _).mono ?_;rintro e w2 ⟨rfl,hb⟩;have wm:=hbt u6 hb;clear hb c0 c1 c2 c3;have c0:=K0.o _ wm.o;have c1:=K1.o _ wm.o;have c2:=K2.o _ wm.o;have c3:=K3.o _ wm.o;go_wp2;go_ret
 exact⟨rfl,wm.o⟩
theorem z19 (g:Nat)(l1 h1 l2 h2:ByteArray)(w:World)(s0:(decide (40<l1.size) || decide (40<h1.size))=false)(s1:(decide (40<l2.size) || decide (40<h2.size))=false)(hg:g<w.heap.size)(hc:w.cell? ⟨g,0,none⟩=some (.string l1)∧w.cell? ⟨g,1,none⟩=some (.string h1)∧w.cell? ⟨g,2,none⟩=some (.string l2)∧w.cell? ⟨g,3,none⟩=some (.string h2)) :
 CR 6 #[.slice (some ⟨g,0,none⟩) 2 2] w (.bool false):=by
 obtain⟨c0,c1,c2,c3⟩:=hc;have w9:=hid (Below.refl w.heap.size w);have K0:=hid (show ∀ W,Below w.heap.size w W→W.cell? ⟨g,0,none⟩=some (.string l1) from fun W hB=>(hB.cell (p:=⟨g,0,none⟩) hg).trans c0);have K1:=hid (show ∀ W,Below w.heap.size w W→W.cell? ⟨g,1,none⟩=some (.string h1) from fun W hB=>(hB.cell (p:=⟨g,1,none⟩) hg).trans c1);have K2:=hid (show ∀ W,Below w.heap.size w W→W.cell? ⟨g,2,none⟩=some (.string l2) from fun W hB=>(hB.cell (p:=⟨g,2,none⟩) hg).trans c2);have K3:=hid (show ∀ W,Below w.heap.size w W→W.cell? ⟨g,3,none⟩=some (.string h2) from fun W hB=>(hB.cell (p:=⟨g,3,none⟩) hg).trans c3);have S0:=hid s0;have S1:=hid s1;clear s0 s1 hg;go_enter func6,ntmps6
 go_wp2;refine wp_loop_rounds 3 ?_;rw[rounds_succ];go_wp2_with fail
 refine(lF l1 h1 _ S0.o _).mono ?_;rintro e w1 ⟨rfl,hb⟩;have u6:=hbt w9 hb;clear hb c0 c1 c2 c3;have c0:=K0.o _ u6.o;have c1:=K1.o _ u6.o;have c2:=K2.o _ u6.o;have c3:=K3.o _ u6.o;go_wp2;rw[rounds_succ];go_wp2_with fail
 refine(lF l2 h2 _ S1.o _).mono ?_;rintro e w2 ⟨rfl,hb⟩;have wm:=hbt u6 hb;clear hb c0 c1 c2 c3;have c0:=K0.o _ wm.o;have c1:=K1.o _ wm.o;have c2:=K2.o _ wm.o;have c3:=K3.o _ wm.o;go_wp2;rw[rounds_succ];go_wp2;go_ret
 exact⟨rfl,wm.o⟩
theorem yT (g:Nat)(l1 h1 l2 h2:ByteArray)(w:World)(h:40<l1.size∨40<h1.size∨40<l2.size∨40<h2.size)(hg:g<w.heap.size)(hc:w.cell? ⟨g,0,none⟩=some (.string l1)∧w.cell? ⟨g,1,none⟩=some (.string h1)∧w.cell? ⟨g,2,none⟩=some (.string l2)∧w.cell? ⟨g,3,none⟩=some (.string h2)) :
 CR 6 #[.slice (some ⟨g,0,none⟩) 2 2] w (.bool true):=by
 cases s0:(decide (40<l1.size) || decide (40<h1.size)) with
 | true=>exact yV g l1 h1 l2 h2 w s0 hg hc
 | false =>
 have s1:(decide (40<l2.size) || decide (40<h2.size))=true:=by simp at *;omega
 exact yU g l1 h1 l2 h2 w s0 s1 hg hc
theorem uz (g:Nat)(l1 h1 l2 h2:ByteArray)(w:World)(s0:l1.size≤40∧h1.size≤40)(s1:l2.size≤40∧h2.size≤40)(hg:g<w.heap.size)(hc:w.cell? ⟨g,0,none⟩=some (.string l1)∧w.cell? ⟨g,1,none⟩=some (.string h1)∧w.cell? ⟨g,2,none⟩=some (.string l2)∧w.cell? ⟨g,3,none⟩=some (.string h2)) :
 CR 6 #[.slice (some ⟨g,0,none⟩) 2 2] w (.bool false) :=
 z19 g l1 h1 l2 h2 w (by simp;omega) (by simp;omega) hg hc
abbrev CV (w:World) (f:Nat) (args:Array Value) (v:Value):Prop:=∀ W,Below w.heap.size w W→Calls Tryz.prog f args W fun e w'=>e=.returned v∧Below W.heap.size W w'
theorem CV.mono {w W:World}{f:Nat}{args:Array Value}{v:Value}(h:CV w f args v)(hb:Below w.heap.size w W):CV W f args v:=fun X hX=>h X (hb.trans (hX.mono hb.size))
theorem CV.at {w:World}{f:Nat}{args:Array Value}{v:Value}(h:CV w f args v):Calls Tryz.prog f args w fun e w'=>e=.returned v∧Below w.heap.size w w':=h w (Below.refl _ _)
theorem z0j (x:Rat):x.num.sign=cmpQ x 0:=by
 have h:=tY x 0;have h0:(0:Rat).num.sign=0:=rfl;rw[h0]at h;rcases Int.sign_trichotomy x.num with e|e|e
 · rw[e]at h ⊢;exact(h.2 (by decide)).symm
 · have hz:x=0:=Rat.num_eq_zero.1 (Int.sign_eq_zero_iff_zero.1 e)
   rw[hz];rfl
 · rw[e]at h ⊢;exact(h.1 (by decide)).symm
theorem glq {q:Rat}(h:SmQ 40 q):LQ q:=rX h (by decide) (by decide)
theorem gF {x:Rat}(hx:SmQ 40 x):KSb 71 (.string (Sq x)) x true:=ksb (fun W=>z2R x (hx.mono (by decide)) (by have:=zl (hx.mono (by decide:40≤900)) (by decide);omega) W)
theorem z3V {a:ByteArray}(ha:a.size≤40)(h:vldQ a.data.toList=false):∃ x,KSb 71 (.string a) x false:=by
 obtain⟨x,hx⟩:=zI a (by omega);rw[h]at hx;exact⟨x,ksb hx⟩
theorem gCmp {x y:Rat}(hx:SmQ 40 x)(hy:SmQ 40 y):KP2 54 x y (.int .i64 (cmpQ x y)):=kp2 (z3v x y _ rfl (glq hx) (glq hy))
theorem gSgn (x:Rat):KP1 69 x (.int .i64 (cmpQ x 0)):=kp1 (zG x _ (z0j x))
theorem vE (x y:Rat):decide (cmpQ x y≤0)=decide (x≤y):=by
 rcases fK x y with⟨h,e⟩|⟨h,e⟩|⟨h,e⟩<;>rw[e,decide_eq_decide]<;>grind
theorem g1 (a:ByteArray)(ha:a.size≤40):(∃ x,a=Sq x∧SmQ 40 x)∨vldQ a.data.toList=false:=by
 cases hv:vldQ a.data.toList with
 | true =>
   have e:=z3t hv;exact Or.inl ⟨_,e,zx (by rwa [← e]) (by decide)⟩
 | false=>exact Or.inr rfl
theorem g40 {x:Rat}(h:SmQ 40 x):aS x:=h.fit (by decide)
theorem pIV (l u:ByteArray)(hl:l.size≤40)(hu:u.size≤40):∃ (b:Bool) (xa xb:Rat),KIb 46 (.agg #[.string l,.string u]) xa xb b ∧
 (CL 27 #[.agg #[.string l,.string u]] (.bool b))∧(b=true→l=Sq xa∧u=Sq xb∧SmQ 40 xa∧SmQ 40 xb∧xa≤xb):=by
 rcases g1 l hl with⟨x,rfl,hx⟩|hv
 · rcases g1 u hu with⟨y,rfl,hy⟩|hv
   · refine⟨decide (x≤y),x,y,fun W=>z0m _ _ x y _ _ W (vE x y) (gF hx) (gF hy) (gCmp hx hy),fun W hW=>?_,fun h=>⟨rfl,rfl,hx,hy,of_decide_eq_true h⟩⟩
     by_cases h:x≤y
     · rw[decide_eq_true h];exact bU x y h (g40 hx) (g40 hy) W hW
     · rw[decide_eq_false h];exact z0d x y (by grind) (g40 hx) (g40 hy) W hW
   · obtain⟨y,hy⟩:=z3V hu hv
     exact⟨false,x,y,fun W=>z1Y _ _ x y W (gF hx) hy,fun W hW=>lM _ _ (by rw[hv,Bool.and_false]) (by omega) (by omega) W hW,fun h=>by cases h⟩
 · obtain⟨x,hx⟩:=z3V hl hv
   rcases g1 u hu with⟨y,rfl,hy⟩|hv2
   · exact⟨false,x,y,fun W=>xn _ _ x y true W hx (gF hy),fun W hW=>lM _ _ (by rw[hv,Bool.false_and]) (by omega) (by omega) W hW,fun h=>by cases h⟩
   · obtain⟨y,hy⟩:=z3V hu hv2
     exact⟨false,x,y,fun W=>xn _ _ x y false W hx hy,fun W hW=>lM _ _ (by rw[hv,Bool.false_and]) (by omega) (by omega) W hW,fun h=>by cases h⟩
end Go.Proofs.YteihfbkaieemdaaGreatDoor
set_option maxRecDepth 100000
set_option maxHeartbeats 20000000
open Go.Lib (hid)
namespace Go.Proofs.YteihfbkaieemdaaGreatDoor
open Go.RowKit Go.Gb
theorem z3N (l u m n:ByteArray)(w₀:World)(h1:CV w₀ 27 #[.agg #[.string l,.string u]] (.bool false))  :
 CV w₀ 7 #[.agg #[.string l,.string u],.agg #[.string m,.string n]] (.tuple #[.agg #[.string ⟨#[]⟩,.string ⟨#[]⟩],.int .i64 1]):=by
 intro w hw;have C1:=hid (h1.mono hw);clear h1 hw;go_enter func7,ntmps7
 go_upto_region 1 with fail
 refine ay w [(#[.string l,.string u],24),(#[.string m,.string n],24),(#[.string ⟨#[]⟩,.string ⟨#[]⟩],24)] rfl ?_;rintro W0 ⟨k1,k2,k3,hb⟩;have w9:=hid (show Below w.heap.size w W0 from hb);obtain ⟨K1,K2,K3⟩:=ak k1 k2 k3;clear k1 k2 k3 hb;obtain ⟨wo,wu⟩:=av K1.o rfl rfl;go_wp2_with fail
 with_reducible refine(C1.o _ w9.o).mono ?_
 rintro e W1 ⟨rfl,hb⟩;clear wo wu;have K3:=hid (K3.o.below hb);have u6:=hbt w9 hb;clear hb;obtain ⟨ww,sw⟩:=av K3.o rfl rfl;obtain ⟨rV,p8⟩:=bE K3.o;go_wp2;exact bodyPost_ret (v:=.tuple #[.agg #[.string ⟨#[]⟩,.string ⟨#[]⟩],.int .i64 1]) (by simp[results,results7,go_sem,ww,sw]) rfl ⟨rfl,(ax (l:=[.string ⟨#[]⟩,.string ⟨#[]⟩]) (i:=0) (by omega) u6.o)⟩
theorem z3M (l u m n:ByteArray)(w₀:World)(h1:CV w₀ 27 #[.agg #[.string l,.string u]] (.bool true))(h2:CV w₀ 27 #[.agg #[.string m,.string n]] (.bool false))  :
 CV w₀ 7 #[.agg #[.string l,.string u],.agg #[.string m,.string n]] (.tuple #[.agg #[.string ⟨#[]⟩,.string ⟨#[]⟩],.int .i64 1]):=by
 intro w hw;have C1:=hid (h1.mono hw);have C2:=hid (h2.mono hw);clear h1 h2 hw;go_enter func7,ntmps7
 go_upto_region 1 with fail
 refine ay w [(#[.string l,.string u],24),(#[.string m,.string n],24),(#[.string ⟨#[]⟩,.string ⟨#[]⟩],24)] rfl ?_;rintro W0 ⟨k1,k2,k3,hb⟩;have w9:=hid (show Below w.heap.size w W0 from hb);obtain ⟨K1,K2,K3⟩:=ak k1 k2 k3;clear k1 k2 k3 hb;obtain ⟨wo,wu⟩:=av K1.o rfl rfl;go_wp2_with fail
 with_reducible refine(C1.o _ w9.o).mono ?_
 rintro e W1 ⟨rfl,hb⟩;clear wo wu;obtain ⟨K2,K3⟩:=aU hb K2 K3;have u6:=hbt w9 hb;clear hb;obtain ⟨r9,rM⟩:=av K2.o rfl rfl;go_wp2_with fail
 with_reducible refine(C2.o _ u6.o).mono ?_
 rintro e W2 ⟨rfl,hb⟩;clear r9 rM;have K3:=hid (K3.o.below hb);have wm:=hbt u6 hb;clear hb;obtain ⟨ww,sw⟩:=av K3.o rfl rfl;obtain ⟨rV,p8⟩:=bE K3.o;go_wp2;exact bodyPost_ret (v:=.tuple #[.agg #[.string ⟨#[]⟩,.string ⟨#[]⟩],.int .i64 1]) (by simp[results,results7,go_sem,ww,sw]) rfl ⟨rfl,(ax (l:=[.string ⟨#[]⟩,.string ⟨#[]⟩]) (i:=0) (by omega) wm.o)⟩
theorem z3H (l u m n:ByteArray)(w₀:World)(h1:CV w₀ 27 #[.agg #[.string l,.string u]] (.bool false))  :
 CV w₀ 9 #[.agg #[.string l,.string u],.agg #[.string m,.string n]] (.tuple #[.agg #[.string ⟨#[]⟩,.string ⟨#[]⟩],.int .i64 1]):=by
 intro w hw;have C1:=hid (h1.mono hw);clear h1 hw;go_enter func9,ntmps9
 go_upto_region 1 with fail
 refine ay w [(#[.string l,.string u],24),(#[.string m,.string n],24),(#[.string ⟨#[]⟩,.string ⟨#[]⟩],24)] rfl ?_;rintro W0 ⟨k1,k2,k3,hb⟩;have w9:=hid (show Below w.heap.size w W0 from hb);obtain ⟨K1,K2,K3⟩:=ak k1 k2 k3;clear k1 k2 k3 hb;obtain ⟨wo,wu⟩:=av K1.o rfl rfl;go_wp2_with fail
 with_reducible refine(C1.o _ w9.o).mono ?_
 rintro e W1 ⟨rfl,hb⟩;clear wo wu;have K3:=hid (K3.o.below hb);have u6:=hbt w9 hb;clear hb;obtain ⟨ww,sw⟩:=av K3.o rfl rfl;obtain ⟨rV,p8⟩:=bE K3.o;go_wp2;exact bodyPost_ret (v:=.tuple #[.agg #[.string ⟨#[]⟩,.string ⟨#[]⟩],.int .i64 1]) (by simp[results,results9,go_sem,ww,sw]) rfl ⟨rfl,(ax (l:=[.string ⟨#[]⟩,.string ⟨#[]⟩]) (i:=0) (by omega) u6.o)⟩
theorem z3G (l u m n:ByteArray)(w₀:World)(h1:CV w₀ 27 #[.agg #[.string l,.string u]] (.bool true))(h2:CV w₀ 27 #[.agg #[.string m,.string n]] (.bool false))  :
 CV w₀ 9 #[.agg #[.string l,.string u],.agg #[.string m,.string n]] (.tuple #[.agg #[.string ⟨#[]⟩,.string ⟨#[]⟩],.int .i64 1]):=by
 intro w hw;have C1:=hid (h1.mono hw);have C2:=hid (h2.mono hw);clear h1 h2 hw;go_enter func9,ntmps9
 go_upto_region 1 with fail
 refine ay w [(#[.string l,.string u],24),(#[.string m,.string n],24),(#[.string ⟨#[]⟩,.string ⟨#[]⟩],24)] rfl ?_;rintro W0 ⟨k1,k2,k3,hb⟩;have w9:=hid (show Below w.heap.size w W0 from hb);obtain ⟨K1,K2,K3⟩:=ak k1 k2 k3;clear k1 k2 k3 hb;obtain ⟨wo,wu⟩:=av K1.o rfl rfl;go_wp2_with fail
 with_reducible refine(C1.o _ w9.o).mono ?_
 rintro e W1 ⟨rfl,hb⟩;clear wo wu;obtain ⟨K2,K3⟩:=aU hb K2 K3;have u6:=hbt w9 hb;clear hb;obtain ⟨r9,rM⟩:=av K2.o rfl rfl;go_wp2_with fail
 with_reducible refine(C2.o _ u6.o).mono ?_
 rintro e W2 ⟨rfl,hb⟩;clear r9 rM;have K3:=hid (K3.o.below hb);have wm:=hbt u6 hb;clear hb;obtain ⟨ww,sw⟩:=av K3.o rfl rfl;obtain ⟨rV,p8⟩:=bE K3.o;go_wp2;exact bodyPost_ret (v:=.tuple #[.agg #[.string ⟨#[]⟩,.string ⟨#[]⟩],.int .i64 1]) (by simp[results,results9,go_sem,ww,sw]) rfl ⟨rfl,(ax (l:=[.string ⟨#[]⟩,.string ⟨#[]⟩]) (i:=0) (by omega) wm.o)⟩
theorem z3J (l u m n:ByteArray)(w₀:World)(h1:CV w₀ 27 #[.agg #[.string l,.string u]] (.bool false))  :
 CV w₀ 11 #[.agg #[.string l,.string u],.agg #[.string m,.string n]] (.tuple #[.agg #[.string ⟨#[]⟩,.string ⟨#[]⟩],.int .i64 1]):=by
 intro w hw;have C1:=hid (h1.mono hw);clear h1 hw;go_enter func11,ntmps11
 go_upto_region 1 with fail
 refine ay w [(#[.string l,.string u],24),(#[.string m,.string n],24),(#[.string ⟨#[]⟩,.string ⟨#[]⟩],24)] rfl ?_;rintro W0 ⟨k1,k2,k3,hb⟩;have w9:=hid (show Below w.heap.size w W0 from hb);obtain ⟨K1,K2,K3⟩:=ak k1 k2 k3;clear k1 k2 k3 hb;obtain ⟨wo,wu⟩:=av K1.o rfl rfl;go_wp2_with fail
 with_reducible refine(C1.o _ w9.o).mono ?_
 rintro e W1 ⟨rfl,hb⟩;clear wo wu;have K3:=hid (K3.o.below hb);have u6:=hbt w9 hb;clear hb;obtain ⟨ww,sw⟩:=av K3.o rfl rfl;obtain ⟨rV,p8⟩:=bE K3.o;go_wp2;exact bodyPost_ret (v:=.tuple #[.agg #[.string ⟨#[]⟩,.string ⟨#[]⟩],.int .i64 1]) (by simp[results,results11,go_sem,ww,sw]) rfl ⟨rfl,(ax (l:=[.string ⟨#[]⟩,.string ⟨#[]⟩]) (i:=0) (by omega) u6.o)⟩
theorem z3I (l u m n:ByteArray)(w₀:World)(h1:CV w₀ 27 #[.agg #[.string l,.string u]] (.bool true))(h2:CV w₀ 27 #[.agg #[.string m,.string n]] (.bool false))  :
 CV w₀ 11 #[.agg #[.string l,.string u],.agg #[.string m,.string n]] (.tuple #[.agg #[.string ⟨#[]⟩,.string ⟨#[]⟩],.int .i64 1]):=by
 intro w hw;have C1:=hid (h1.mono hw);have C2:=hid (h2.mono hw);clear h1 h2 hw;go_enter func11,ntmps11
 go_upto_region 1 with fail
 refine ay w [(#[.string l,.string u],24),(#[.string m,.string n],24),(#[.string ⟨#[]⟩,.string ⟨#[]⟩],24)] rfl ?_;rintro W0 ⟨k1,k2,k3,hb⟩;have w9:=hid (show Below w.heap.size w W0 from hb);obtain ⟨K1,K2,K3⟩:=ak k1 k2 k3;clear k1 k2 k3 hb;obtain ⟨wo,wu⟩:=av K1.o rfl rfl;go_wp2_with fail
 with_reducible refine(C1.o _ w9.o).mono ?_
 rintro e W1 ⟨rfl,hb⟩;clear wo wu;obtain ⟨K2,K3⟩:=aU hb K2 K3;have u6:=hbt w9 hb;clear hb;obtain ⟨r9,rM⟩:=av K2.o rfl rfl;go_wp2_with fail
 with_reducible refine(C2.o _ u6.o).mono ?_
 rintro e W2 ⟨rfl,hb⟩;clear r9 rM;have K3:=hid (K3.o.below hb);have wm:=hbt u6 hb;clear hb;obtain ⟨ww,sw⟩:=av K3.o rfl rfl;obtain ⟨rV,p8⟩:=bE K3.o;go_wp2;exact bodyPost_ret (v:=.tuple #[.agg #[.string ⟨#[]⟩,.string ⟨#[]⟩],.int .i64 1]) (by simp[results,results11,go_sem,ww,sw]) rfl ⟨rfl,(ax (l:=[.string ⟨#[]⟩,.string ⟨#[]⟩]) (i:=0) (by omega) wm.o)⟩
theorem z3L (l u m n:ByteArray)(w₀:World)(h1:CV w₀ 27 #[.agg #[.string l,.string u]] (.bool false))  :
 CV w₀ 13 #[.agg #[.string l,.string u],.agg #[.string m,.string n]] (.tuple #[.agg #[.string ⟨#[]⟩,.string ⟨#[]⟩],.int .i64 1]):=by
 intro w hw;have C1:=hid (h1.mono hw);clear h1 hw;go_enter func13,ntmps13
 go_upto_region 1 with fail
 refine ay w [(#[.string l,.string u],24),(#[.string m,.string n],24),(#[.string ⟨#[]⟩,.string ⟨#[]⟩],24)] rfl ?_;rintro W0 ⟨k1,k2,k3,hb⟩;have w9:=hid (show Below w.heap.size w W0 from hb);obtain ⟨K1,K2,K3⟩:=ak k1 k2 k3;clear k1 k2 k3 hb;obtain ⟨wo,wu⟩:=av K1.o rfl rfl;go_wp2_with fail
 with_reducible refine(C1.o _ w9.o).mono ?_
 rintro e W1 ⟨rfl,hb⟩;clear wo wu;have K3:=hid (K3.o.below hb);have u6:=hbt w9 hb;clear hb;obtain ⟨ww,sw⟩:=av K3.o rfl rfl;obtain ⟨rV,p8⟩:=bE K3.o;go_wp2;exact bodyPost_ret (v:=.tuple #[.agg #[.string ⟨#[]⟩,.string ⟨#[]⟩],.int .i64 1]) (by simp[results,results13,go_sem,ww,sw]) rfl ⟨rfl,(ax (l:=[.string ⟨#[]⟩,.string ⟨#[]⟩]) (i:=0) (by omega) u6.o)⟩
theorem z3K (l u m n:ByteArray)(w₀:World)(h1:CV w₀ 27 #[.agg #[.string l,.string u]] (.bool true))(h2:CV w₀ 27 #[.agg #[.string m,.string n]] (.bool false))  :
 CV w₀ 13 #[.agg #[.string l,.string u],.agg #[.string m,.string n]] (.tuple #[.agg #[.string ⟨#[]⟩,.string ⟨#[]⟩],.int .i64 1]):=by
 intro w hw;have C1:=hid (h1.mono hw);have C2:=hid (h2.mono hw);clear h1 h2 hw;go_enter func13,ntmps13
 go_upto_region 1 with fail
 refine ay w [(#[.string l,.string u],24),(#[.string m,.string n],24),(#[.string ⟨#[]⟩,.string ⟨#[]⟩],24)] rfl ?_;rintro W0 ⟨k1,k2,k3,hb⟩;have w9:=hid (show Below w.heap.size w W0 from hb);obtain ⟨K1,K2,K3⟩:=ak k1 k2 k3;clear k1 k2 k3 hb;obtain ⟨wo,wu⟩:=av K1.o rfl rfl;go_wp2_with fail
 with_reducible refine(C1.o _ w9.o).mono ?_
 rintro e W1 ⟨rfl,hb⟩;clear wo wu;obtain ⟨K2,K3⟩:=aU hb K2 K3;have u6:=hbt w9 hb;clear hb;obtain ⟨r9,rM⟩:=av K2.o rfl rfl;go_wp2_with fail
 with_reducible refine(C2.o _ u6.o).mono ?_
 rintro e W2 ⟨rfl,hb⟩;clear r9 rM;have K3:=hid (K3.o.below hb);have wm:=hbt u6 hb;clear hb;obtain ⟨ww,sw⟩:=av K3.o rfl rfl;obtain ⟨rV,p8⟩:=bE K3.o;go_wp2;exact bodyPost_ret (v:=.tuple #[.agg #[.string ⟨#[]⟩,.string ⟨#[]⟩],.int .i64 1]) (by simp[results,results13,go_sem,ww,sw]) rfl ⟨rfl,(ax (l:=[.string ⟨#[]⟩,.string ⟨#[]⟩]) (i:=0) (by omega) wm.o)⟩
theorem z0e (l u:ByteArray)(w₀:World)(h1:CV w₀ 27 #[.agg #[.string l,.string u]] (.bool false))  :
 CV w₀ 15 #[.agg #[.string l,.string u]] (.tuple #[.agg #[.string ⟨#[]⟩,.string ⟨#[]⟩],.int .i64 1]):=by
 intro w hw;have C1:=hid (h1.mono hw);clear h1 hw;go_enter func15,ntmps15
 go_upto_region 1 with fail
 refine ay w [(#[.string l,.string u],24),(#[.string ⟨#[]⟩,.string ⟨#[]⟩],24)] rfl ?_;rintro W0 ⟨k1,k2,hb⟩;have w9:=hid (show Below w.heap.size w W0 from hb);have K1:=hid k1;have K2:=hid k2;clear k1 k2 hb;obtain ⟨wo,wu⟩:=av K1.o rfl rfl;go_wp2_with fail
 with_reducible refine(C1.o _ w9.o).mono ?_
 rintro e W1 ⟨rfl,hb⟩;clear wo wu;have K2:=hid (K2.o.below hb);have u6:=hbt w9 hb;clear hb;obtain ⟨r9,rM⟩:=av K2.o rfl rfl;obtain ⟨pq,ol⟩:=bE K2.o;go_wp2;exact bodyPost_ret (v:=.tuple #[.agg #[.string ⟨#[]⟩,.string ⟨#[]⟩],.int .i64 1]) (by simp[results,results15,go_sem,r9,rM]) rfl ⟨rfl,(ax (l:=[.string ⟨#[]⟩,.string ⟨#[]⟩]) (i:=0) (by omega) u6.o)⟩
