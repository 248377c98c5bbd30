/- texts -/
import Derived.Test.YteihfbkaieemdaaGreatDoorMz38q
import Derived.Test.YteihfbkaieemdaaGreatDoorMz41q
open Go.Proofs.Tryz
namespace Go.Proofs.YteihfbkaieemdaaGreatDoor
open Go.RowKit Go.Gb
theorem ko {q:Rat}{k:Nat}(h:SmQ k q)(h0:0<k)(hk:k≤10000):LQ q:=⟨Nat.le_trans (ib h.1 h0) hk,Nat.le_trans (ib h.2 h0) hk⟩
theorem zT (a:ByteArray)(ha:a.size≤900):∃ q:Rat,∀ W,Calls Tryz.prog 71 #[.string a] W fun e w'=>∃ p c s d,e=.returned (.tuple #[.agg #[.bool (ah q.num),.slice p (aa q.num) c,.slice s (ag q.den) d],.bool (vldQ a.data.toList)])∧RN w' (.slice p (aa q.num) c) q.num.natAbs∧RN w' (.slice s (ag q.den) d) q.den∧Below W.heap.size W w':=by
 cases h:vldQ a.data.toList with
 | false=>exact⟨0,fun W=>z1O a h ha W⟩
 | true =>
   have e:=z3X h;obtain⟨q,hq⟩:∃ q,q=qval a.data.toList:=⟨_,rfl⟩;rw[← hq]at e;subst e;exact⟨q,fun W=>z5Q q (zN ha (by decide)) (by omega) W⟩
set_option maxRecDepth 100000
set_option maxHeartbeats 20000000
open Go.Lib (hid)
theorem kv (x y:ByteArray)(r:Bool)(hr:(decide (40<x.size) || decide (40<y.size))=r)(w:World) :
 CR 30 #[.agg #[.string x,.string y]] w (.bool r):=by
 have HI:=hid (xJ w x y);have HB:=hid ((cZ w (.cells #[.string x,.string y] 24)).alloc (by simp) (.cells #[.string x,.string y] 22));have hc:=uN (w.alloc (.cells #[.string x,.string y] 24)) x y;rw[show(w.alloc (.cells #[.string x,.string y] 24)).heap.size=w.heap.size+1 by simp]at hc
 have HC:Hid (Calls Tryz.prog 31 #[.slice (some ⟨w.heap.size+1,0,none⟩) 2 2] ((w.alloc (.cells #[.string x,.string y] 24)).alloc (.cells #[.string x,.string y] 22)) fun e w'=>e=.returned (.bool r)∧((w.alloc (.cells #[.string x,.string y] 24)).alloc (.cells #[.string x,.string y] 22))=w'):=hid (by
  by_cases h:40<x.size∨40<y.size
  · have e:r=true:=by rw[← hr];simpa using h
    subst e;exact z0p _ x y _ h hc
  · have e:r=false:=by rw[← hr];simp;omega
    subst e
    exact z2m _ x y _ (by omega) (by omega) hc)
 clear hc hr;go_enter func30,ntmps30
 obtain⟨_,m0,m1⟩:=HI.o;go_wp2_with fail
 refine HC.o.mono ?_;rintro e w' ⟨rfl,rfl⟩;go_wp2;go_ret
 exact⟨rfl,HB.o⟩
theorem z5D (g:Nat)(l1 h1:ByteArray)(w:World)(s0:(decide (40<l1.size) || decide (40<h1.size))=false)(hg:g<w.heap.size)(hc:w.cell? ⟨g,0,none⟩=some (.string l1)∧w.cell? ⟨g,1,none⟩=some (.string h1)) :
 CR 6 #[.slice (some ⟨g,0,none⟩) 1 1] w (.bool false):=by
 obtain⟨c0,c1⟩:=hc;have w9:=hid (Below.refl w.heap.size w);have K0:=hid (show ∀ W,Below w.heap.size w W→W.cell? ⟨g,0,none⟩=some (.string l1) from fun W hB=>(hB.cell (p:=⟨g,0,none⟩) hg).trans c0);have K1:=hid (show ∀ W,Below w.heap.size w W→W.cell? ⟨g,1,none⟩=some (.string h1) from fun W hB=>(hB.cell (p:=⟨g,1,none⟩) hg).trans c1);have S0:=hid s0;clear s0 hg;go_enter func6,ntmps6
 go_wp2;refine wp_loop_rounds 2 ?_;rw[rounds_succ];go_wp2_with fail
 refine(kv l1 h1 _ S0.o _).mono ?_;rintro e w1 ⟨rfl,hb⟩;have u6:=hbt w9 hb;clear hb c0 c1;have c0:=K0.o _ u6.o;have c1:=K1.o _ u6.o;go_wp2;rw[rounds_succ];go_wp2;go_ret
 exact⟨rfl,u6.o⟩
theorem yH (w:World)(l1 h1 l2 h2:ByteArray):(w.alloc (.cells #[.string l1,.string h1,.string l2,.string h2] 24)).cell? ⟨w.heap.size,0,none⟩=some (.string l1)∧(w.alloc (.cells #[.string l1,.string h1,.string l2,.string h2] 24)).cell? ⟨w.heap.size,1,none⟩=some (.string h1)∧(w.alloc (.cells #[.string l1,.string h1,.string l2,.string h2] 24)).cell? ⟨w.heap.size,2,none⟩=some (.string l2)∧(w.alloc (.cells #[.string l1,.string h1,.string l2,.string h2] 24)).cell? ⟨w.heap.size,3,none⟩=some (.string h2) :=
 ⟨(aB rfl).trans rfl,(aB rfl).trans rfl,(aB rfl).trans rfl,(aB rfl).trans rfl⟩
theorem zq (g:Nat)(l1 h1 l2 h2:ByteArray)(w:World)(s0:(decide (40<l1.size) || decide (40<h1.size))=true)(hg:g<w.heap.size)(hc:w.cell? ⟨g,0,none⟩=some (.string l1)∧w.cell? ⟨g,1,none⟩=some (.string h1)∧w.cell? ⟨g,2,none⟩=some (.string l2)∧w.cell? ⟨g,3,none⟩=some (.string h2)) :
 CR 6 #[.slice (some ⟨g,0,none⟩) 2 2] w (.bool true):=by
 obtain⟨c0,c1,c2,c3⟩:=hc;have w9:=hid (Below.refl w.heap.size w);have K0:=hid (show ∀ W,Below w.heap.size w W→W.cell? ⟨g,0,none⟩=some (.string l1) from fun W hB=>(hB.cell (p:=⟨g,0,none⟩) hg).trans c0);have K1:=hid (show ∀ W,Below w.heap.size w W→W.cell? ⟨g,1,none⟩=some (.string h1) from fun W hB=>(hB.cell (p:=⟨g,1,none⟩) hg).trans c1);have K2:=hid (show ∀ W,Below w.heap.size w W→W.cell? ⟨g,2,none⟩=some (.string l2) from fun W hB=>(hB.cell (p:=⟨g,2,none⟩) hg).trans c2);have K3:=hid (show ∀ W,Below w.heap.size w W→W.cell? ⟨g,3,none⟩=some (.string h2) from fun W hB=>(hB.cell (p:=⟨g,3,none⟩) hg).trans c3);have S0:=hid s0;clear s0 hg;go_enter func6,ntmps6
 go_wp2;refine wp_loop_rounds 3 ?_;rw[rounds_succ];go_wp2_with fail
 refine(kv l1 h1 _ S0.o _).mono ?_;rintro e w1 ⟨rfl,hb⟩;have u6:=hbt w9 hb;clear hb c0 c1 c2 c3;have c0:=K0.o _ u6.o;have c1:=K1.o _ u6.o;have c2:=K2.o _ u6.o;have c3:=K3.o _ u6.o;go_wp2;go_ret
 exact⟨rfl,u6.o⟩
theorem zo (g:Nat)(l1 h1 l2 h2:ByteArray)(w:World)(s0:(decide (40<l1.size) || decide (40<h1.size))=false)(s1:(decide (40<l2.size) || decide (40<h2.size))=true)(hg:g<w.heap.size)(hc:w.cell? ⟨g,0,none⟩=some (.string l1)∧w.cell? ⟨g,1,none⟩=some (.string h1)∧w.cell? ⟨g,2,none⟩=some (.string l2)∧w.cell? ⟨g,3,none⟩=some (.string h2)) :
 CR 6 #[.slice (some ⟨g,0,none⟩) 2 2] w (.bool true):=by
 obtain⟨c0,c1,c2,c3⟩:=hc;have w9:=hid (Below.refl w.heap.size w);have K0:=hid (show ∀ W,Below w.heap.size w W→W.cell? ⟨g,0,none⟩=some (.string l1) from fun W hB=>(hB.cell (p:=⟨g,0,none⟩) hg).trans c0);have K1:=hid (show ∀ W,Below w.heap.size w W→W.cell? ⟨g,1,none⟩=some (.string h1) from fun W hB=>(hB.cell (p:=⟨g,1,none⟩) hg).trans c1);have K2:=hid (show ∀ W,Below w.heap.size w W→W.cell? ⟨g,2,none⟩=some (.string l2) from fun W hB=>(hB.cell (p:=⟨g,2,none⟩) hg).trans c2);have K3:=hid (show ∀ W,Below w.heap.size w W→W.cell? ⟨g,3,none⟩=some (.string h2) from fun W hB=>(hB.cell (p:=⟨g,3,none⟩) hg).trans c3);have S0:=hid s0;have S1:=hid s1;clear s0 s1 hg;go_enter func6,ntmps6
 go_wp2;refine wp_loop_rounds 3 ?_;rw[rounds_succ];go_wp2_with fail
 refine(kv l1 h1 _ S0.o _).mono ?_;rintro e w1 ⟨rfl,hb⟩;have u6:=hbt w9 hb;clear hb c0 c1 c2 c3;have c0:=K0.o _ u6.o;have c1:=K1.o _ u6.o;have c2:=K2.o _ u6.o;have c3:=K3.o _ u6.o;go_wp2;rw[rounds_succ];go_wp2_with fail
 refine(kv l2 h2 _ S1.o _).mono ?_;rintro e w2 ⟨rfl,hb⟩;have wm:=hbt u6 hb;clear hb c0 c1 c2 c3;have c0:=K0.o _ wm.o;have c1:=K1.o _ wm.o;have c2:=K2.o _ wm.o;have c3:=K3.o _ wm.o;go_wp2;go_ret
 exact⟨rfl,wm.o⟩
theorem z1y (g:Nat)(l1 h1 l2 h2:ByteArray)(w:World)(s0:(decide (40<l1.size) || decide (40<h1.size))=false)(s1:(decide (40<l2.size) || decide (40<h2.size))=false)(hg:g<w.heap.size)(hc:w.cell? ⟨g,0,none⟩=some (.string l1)∧w.cell? ⟨g,1,none⟩=some (.string h1)∧w.cell? ⟨g,2,none⟩=some (.string l2)∧w.cell? ⟨g,3,none⟩=some (.string h2)) :
 CR 6 #[.slice (some ⟨g,0,none⟩) 2 2] w (.bool false):=by
 obtain⟨c0,c1,c2,c3⟩:=hc;have w9:=hid (Below.refl w.heap.size w);have K0:=hid (show ∀ W,Below w.heap.size w W→W.cell? ⟨g,0,none⟩=some (.string l1) from fun W hB=>(hB.cell (p:=⟨g,0,none⟩) hg).trans c0);have K1:=hid (show ∀ W,Below w.heap.size w W→W.cell? ⟨g,1,none⟩=some (.string h1) from fun W hB=>(hB.cell (p:=⟨g,1,none⟩) hg).trans c1);have K2:=hid (show ∀ W,Below w.heap.size w W→W.cell? ⟨g,2,none⟩=some (.string l2) from fun W hB=>(hB.cell (p:=⟨g,2,none⟩) hg).trans c2);have K3:=hid (show ∀ W,Below w.heap.size w W→W.cell? ⟨g,3,none⟩=some (.string h2) from fun W hB=>(hB.cell (p:=⟨g,3,none⟩) hg).trans c3);have S0:=hid s0;have S1:=hid s1;clear s0 s1 hg;go_enter func6,ntmps6
 go_wp2;refine wp_loop_rounds 3 ?_;rw[rounds_succ];go_wp2_with fail
 refine(kv l1 h1 _ S0.o _).mono ?_;rintro e w1 ⟨rfl,hb⟩;have u6:=hbt w9 hb;clear hb c0 c1 c2 c3;have c0:=K0.o _ u6.o;have c1:=K1.o _ u6.o;have c2:=K2.o _ u6.o;have c3:=K3.o _ u6.o;go_wp2;rw[rounds_succ];go_wp2_with fail
 refine(kv l2 h2 _ S1.o _).mono ?_;rintro e w2 ⟨rfl,hb⟩;have wm:=hbt u6 hb;clear hb c0 c1 c2 c3;have c0:=K0.o _ wm.o;have c1:=K1.o _ wm.o;have c2:=K2.o _ wm.o;have c3:=K3.o _ wm.o;go_wp2;rw[rounds_succ];go_wp2;go_ret
 exact⟨rfl,wm.o⟩
theorem zn (g:Nat)(l1 h1 l2 h2:ByteArray)(w:World)(h:40<l1.size∨40<h1.size∨40<l2.size∨40<h2.size)(hg:g<w.heap.size)(hc:w.cell? ⟨g,0,none⟩=some (.string l1)∧w.cell? ⟨g,1,none⟩=some (.string h1)∧w.cell? ⟨g,2,none⟩=some (.string l2)∧w.cell? ⟨g,3,none⟩=some (.string h2)) :
 CR 6 #[.slice (some ⟨g,0,none⟩) 2 2] w (.bool true):=by
 cases s0:(decide (40<l1.size) || decide (40<h1.size)) with
 | true=>exact zq g l1 h1 l2 h2 w s0 hg hc
 | false =>
 have s1:(decide (40<l2.size) || decide (40<h2.size))=true:=by simp at *;omega
 exact zo g l1 h1 l2 h2 w s0 s1 hg hc
theorem jc (g:Nat)(l1 h1 l2 h2:ByteArray)(w:World)(s0:l1.size≤40∧h1.size≤40)(s1:l2.size≤40∧h2.size≤40)(hg:g<w.heap.size)(hc:w.cell? ⟨g,0,none⟩=some (.string l1)∧w.cell? ⟨g,1,none⟩=some (.string h1)∧w.cell? ⟨g,2,none⟩=some (.string l2)∧w.cell? ⟨g,3,none⟩=some (.string h2)) :
 CR 6 #[.slice (some ⟨g,0,none⟩) 2 2] w (.bool false) :=
 z1y g l1 h1 l2 h2 w (by simp;omega) (by simp;omega) hg hc
abbrev CV (w:World) (f:Nat) (args:Array Value) (v:Value):Prop:=∀ W,Below w.heap.size w W→Calls Tryz.prog f args W fun e w'=>e=.returned v∧Below W.heap.size W w'
theorem CV.mono {w W:World}{f:Nat}{args:Array Value}{v:Value}(h:CV w f args v)(hb:Below w.heap.size w W):CV W f args v:=fun X hX=>h X (hb.trans (hX.mono hb.size))
theorem CV.at {w:World}{f:Nat}{args:Array Value}{v:Value}(h:CV w f args v):Calls Tryz.prog f args w fun e w'=>e=.returned v∧Below w.heap.size w w':=h w (Below.refl _ _)
theorem glq {q:Rat}(h:SmQ 40 q):LQ q:=ko h (by decide) (by decide)
theorem gF {x:Rat}(hx:SmQ 40 x):KSb 71 (.string (Sq x)) x true:=ksb (fun W=>z3z x (hx.mono (by decide)) (by have:=zG (hx.mono (by decide:40≤900)) (by decide);omega) W)
theorem z4u {a:ByteArray}(ha:a.size≤40)(h:vldQ a.data.toList=false):∃ x,KSb 71 (.string a) x false:=by
 obtain⟨x,hx⟩:=zT a (by omega);rw[h]at hx;exact⟨x,ksb hx⟩
theorem gCmp {x y:Rat}(hx:SmQ 40 x)(hy:SmQ 40 y):KP2 54 x y (.int .i64 (cmpQ x y)):=kp2 (z3Y x y _ rfl (glq hx) (glq hy))
theorem z4B (x y:Rat):decide (cmpQ x y≤0)=decide (x≤y):=by
 rcases eU x y with⟨h,e⟩|⟨h,e⟩|⟨h,e⟩<;>rw[e,decide_eq_decide]<;>grind
theorem g1 (a:ByteArray)(ha:a.size≤40):(∃ x,a=Sq x∧SmQ 40 x)∨vldQ a.data.toList=false:=by
 cases hv:vldQ a.data.toList with
 | true =>
   have e:=z3X hv;exact Or.inl ⟨_,e,zN (by rwa [← e]) (by decide)⟩
 | false=>exact Or.inr rfl
theorem g40 {x:Rat}(h:SmQ 40 x):aT x:=h.fit (by decide)
theorem pIV (l u:ByteArray)(hl:l.size≤40)(hu:u.size≤40):∃ (b:Bool) (xa xb:Rat),KIb 46 (.agg #[.string l,.string u]) xa xb b ∧
 (CL 27 #[.agg #[.string l,.string u]] (.bool b))∧(b=true→l=Sq xa∧u=Sq xb∧SmQ 40 xa∧SmQ 40 xb∧xa≤xb):=by
 rcases g1 l hl with⟨x,rfl,hx⟩|hv
 · rcases g1 u hu with⟨y,rfl,hy⟩|hv
   · refine⟨decide (x≤y),x,y,fun W=>z0I _ _ x y _ _ W (z4B x y) (gF hx) (gF hy) (gCmp hx hy),fun W hW=>?_,fun h=>⟨rfl,rfl,hx,hy,of_decide_eq_true h⟩⟩
     by_cases h:x≤y
     · rw[decide_eq_true h];exact bT x y h (g40 hx) (g40 hy) W hW
     · rw[decide_eq_false h];exact z0w x y (by grind) (g40 hx) (g40 hy) W hW
   · obtain⟨y,hy⟩:=z4u hu hv
     exact⟨false,x,y,fun W=>z2I _ _ x y W (gF hx) hy,fun W hW=>lN _ _ (by rw[hv,Bool.and_false]) (by omega) (by omega) W hW,fun h=>by cases h⟩
 · obtain⟨x,hx⟩:=z4u hl hv
   rcases g1 u hu with⟨y,rfl,hy⟩|hv2
   · exact⟨false,x,y,fun W=>xN _ _ x y true W hx (gF hy),fun W hW=>lN _ _ (by rw[hv,Bool.false_and]) (by omega) (by omega) W hW,fun h=>by cases h⟩
   · obtain⟨y,hy⟩:=z4u hu hv2
     exact⟨false,x,y,fun W=>xN _ _ x y false W hx hy,fun W hW=>lN _ _ (by rw[hv,Bool.false_and]) (by omega) (by omega) W hW,fun h=>by cases h⟩
theorem z5a (x:Rat)(z:Int)(hz:x.num / (x.den:Int)=z)(hx:LQ x)(p1:Option Addr)(c1:Nat)(s1:Option Addr)(d1:Nat)(W:World)(r1:RN W (.slice p1 (aa x.num) c1) x.num.natAbs)(t1:RN W (.slice s1 (ag x.den) d1) x.den) :
 CZ 117 #[.agg #[.bool (ah x.num),.slice p1 (aa x.num) c1,.slice s1 (ag x.den) d1]] W z :=
 zt x.num (x.den:Int) z (x.num%(x.den:Int)) x.den p1 c1 s1 d1 W (fun s d W h=>jJ false _ x.den _ (by simp) (Nat.le_trans hx.2 (by decide)) W h) (fun p1 c1 p2 c2 W h1 h2=>z5P x.num (x.den:Int) z _ hz rfl (by have:=x.den_pos;omega) (Nat.le_trans hx.1 (by decide)) (by rw[wK];exact Nat.le_trans hx.2 (by decide)) p1 c1 p2 c2 W h1 h2) r1 t1
end Go.Proofs.YteihfbkaieemdaaGreatDoor
set_option maxRecDepth 100000
set_option maxHeartbeats 20000000
open Go.Lib (hid)
namespace Go.Proofs.YteihfbkaieemdaaGreatDoor
open Go.RowKit Go.Gb
def LI (W:World) (g o n:Nat) (X:Nat→ByteArray):Prop:=g<W.heap.size∧∀ j,j<n*2→W.cell? ⟨g,o+j,none⟩=some (.string (X j))
theorem LI.below {W W':World}{g o n:Nat}{X:Nat→ByteArray}(h:LI W g o n X)(hb:Below W.heap.size W W'):LI W' g o n X :=
 ⟨Nat.lt_of_lt_of_le h.1 hb.size,fun j hj=>(hb.cell (p:=⟨g,o+j,none⟩) h.1).trans (h.2 j hj)⟩
theorem LI.at {W:World}{g o n:Nat}{X:Nat→ByteArray}(h:LI W g o n X){i:Nat}(hi:i<n):W.cell? ⟨g,o+i*2,none⟩=some (.string (X (i*2)))∧W.cell? ⟨g,o+i*2+1,none⟩=some (.string (X (i*2+1))) :=
 ⟨h.2 (i*2) (by omega),h.2 (i*2+1) (by omega)⟩
def LJ (n:Nat) (X:Nat→ByteArray):List Value:=(List.range (n*2)).map fun j => .string (X j)
def SI (W:World) (a:Option Addr) (n c:Nat) (X:Nat→ByteArray):Prop:=n=0∨∃ g o,a=some ⟨g,o,none⟩∧n≤c∧c≤maxLen∧LI W g o n X
theorem SI.below {W W':World}{a:Option Addr}{n c:Nat}{X:Nat→ByteArray}(h:SI W a n c X)(hb:Below W.heap.size W W'):SI W' a n c X:=by
 rcases h with h|⟨g,o,h1,h2,h3,h4⟩
 · exact Or.inl h
 · exact Or.inr ⟨g,o,h1,h2,h3,h4.below hb⟩
theorem z0s:∃ i0:TypeInfo,Tryz.prog.info? 24=some i0∧i0.zero=some (.agg #[.string ⟨#[]⟩,.string ⟨#[]⟩])∧i0.size=2∧i0.bytes=32:=by
 have h1:(Tryz.prog.info? 24).map (fun i=>i.zero)=some (some (.agg #[.string ⟨#[]⟩,.string ⟨#[]⟩])):=by kernel_rfl
 have h2:(Tryz.prog.info? 24).map (fun i=>i.size)=some 2:=by kernel_rfl
 have h3:(Tryz.prog.info? 24).map (fun i=>i.bytes)=some 32:=by kernel_rfl
 cases h:Tryz.prog.info? 24 with
 | none=>rw[h]at h1;cases h1
 | some i =>
   rw[h]at h1 h2 h3;exact⟨i,rfl,by simpa using h1,by simpa using h2,by simpa using h3⟩
theorem z5m (a:Option Addr)(n c:Nat)(X:Nat→ByteArray)(hn:n≤1600)(w:World)(hl:SI w a n c X):Calls Tryz.prog 20 #[.slice a n c] w fun e w'=>∃ a' c',e=.returned (.slice a' n c')∧SI w' a' n c' X∧Below w.heap.size w w':=by
 obtain⟨i0,hi,hz0,hz1,hz2⟩:=z0s;have q0:∀ (w:World) (a:Option Addr) (n c n' c':Nat),(binOp .eql 32 (.slice a n c) (.slice none n' c')).run Tryz.prog w=.ok (.bool a.isNone) w:=fun w a n c n' c'=>Lib.run_eql_slice_nil w _ _ a n c n' c' underlying32
 cases a with
 | none =>
   rcases hl with rfl|⟨g,o,h,_⟩
   · go_enter func20,ntmps20
     go_wp2;go_ret
     exact⟨none,0,rfl,Or.inl rfl,Below.refl _ _⟩
   · cases h
 | some a =>
   have A:Hid (n=0∨LI w a.block a.off n X∧a=⟨a.block,a.off,none⟩):=hid (by
    rcases hl with h|⟨g,o,h,_,_,h4⟩
    · exact Or.inl h
    · obtain rfl:=Option.some.inj h
      exact Or.inr ⟨h4,rfl⟩)
   clear hl;go_enter func20,ntmps20
   go_wp2_with (at_builtin;refine wpList_append_own _ rfl _ _ 32 rfl w.heap.size 24 i0 (.agg #[.string ⟨#[]⟩,.string ⟨#[]⟩]) 2 32 underlying32 hi hz0 hz1 hz2 rfl (by decide) _ _ _ rfl (World.ownsRow_made w #[] 0 (Nat.le_refl _) (Nat.zero_le _) rfl) a n c (LJ n X) rfl ?qc1 ?qc2 ?qc3 ?qc4 ?qc5 ?qc6 ?_)
   case qc1=>simp[LJ]
   case qc2 =>
    intro j u hj
    have hjn:j<n*2:=by
        have:=(List.getElem?_eq_some_iff.1 hj).1;simpa [LJ] using this
    rcases A.o with h|⟨h,e⟩
    · omega
    · rw[e,Addr.add_lit]
      refine Lib.cell?_alloc_some _ ?_;rw[h.2 j hjn];simpa [LJ,hjn] using hj
   case qc3=>intro u hu;obtain⟨x,_,rfl⟩:=List.mem_map.1 hu;rfl
   case qc4=>unfold maxLen;omega
   case qc5=>omega
   case qc6=>simp
   intro v' w1 hown hgrow hnil;go_wp2;go_ret
   have hB:Below w.heap.size w w1:=((Below.refl _ w).alloc (Nat.le_refl _) _).grown hgrow (by simp) (by intro k hk;simp[Value.ownBlock]at hk;omega);obtain⟨h1,h2⟩:=hown;rcases h2 with⟨rfl,h3⟩|⟨g,cap,cur,rfl,hg,hh,hn2,hc,hs,ht⟩
   · obtain rfl:n=0:=by omega
     exact⟨none,0,by simp,Or.inl rfl,hB⟩
   · refine⟨_,cap,rfl,?_,hB⟩
     refine Or.inr ⟨g,0,rfl,hn2,hc,(Array.getElem?_eq_some_iff.1 hh).1,fun j hj=>?_⟩;have hx:(LJ n X)[j]? = some (.string (X j)):=by simp[LJ,hj]
     rw[← ht,List.getElem?_take,if_pos hj]at hx;simp only[World.cell?,hh];simpa using hx
def HuV (V:Nat→Bool) (q:Nat→Rat) (n:Nat):Value:=if (List.range n).all V then .tuple #[Vq (exOf q (2*n-1)).1 (exOf q (2*n-1)).2,.int .i64 0] else .tuple #[.agg #[.string ⟨#[]⟩,.string ⟨#[]⟩],.int .i64 1]
theorem z3M {V:Nat→Bool}{q:Nat→Rat}{n i:Nat}(hi:i<n)(h:V i=false):HuV V q n=.tuple #[.agg #[.string ⟨#[]⟩,.string ⟨#[]⟩],.int .i64 1]:=by
 unfold HuV
 rw[if_neg];rw[List.all_eq_true];intro h2;have:=h2 i (List.mem_range.2 hi);rw[h]at this;cases this
theorem z1m {V:Nat→Bool}{q:Nat→Rat}{n:Nat}(h:∀ j,j<n→V j=true):HuV V q n=.tuple #[Vq (exOf q (2*n-1)).1 (exOf q (2*n-1)).2,.int .i64 0]:=by
 unfold HuV
 rw[if_pos];rw[List.all_eq_true];intro j hj;exact h j (List.mem_range.1 hj)
theorem z5p {V:Nat→Bool}{q:Nat→Rat}{X:Nat→ByteArray}{n:Nat}{P:Rat→Prop}(h:∀ j,j<n→V j=true)(hq:∀ i,i<n→V i=true→X (i*2)=Sq (q (2*i))∧X (i*2+1)=Sq (q (2*i+1))∧P (q (2*i))∧P (q (2*i+1)))(j:Nat)(hj:j<2*n):P (q j):=by
 obtain⟨_,_,h1,h2⟩:=hq (j / 2) (by omega) (h _ (by omega));rcases (by omega:2*(j / 2)=j∨2*(j / 2)+1=j) with e|e
 · rwa [e]at h1
 · rwa [e]at h2
theorem z4n (a:Option Addr)(n c:Nat)(hn:n=0)(w:World):CR 19 #[.slice a n c] w (.tuple #[.agg #[.string ⟨#[]⟩,.string ⟨#[]⟩],.int .i64 9]):=by
 have e0:(n:Int)=0:=by omega
 clear hn;go_enter func19,ntmps19
 go_upto_region 1 with fail
 refine ay w [(#[.string ⟨#[]⟩,.string ⟨#[]⟩],24)] rfl ?_;rintro W0 ⟨k1,hb⟩;have w9:=hid (show Below w.heap.size w W0 from hb);have K1:=hid k1;clear k1 hb;obtain ⟨wo,wu⟩:=av K1.o rfl rfl;obtain ⟨ww,si⟩:=bF K1.o;go_wp2;exact bodyPost_ret (v:=.tuple #[.agg #[.string ⟨#[]⟩,.string ⟨#[]⟩],.int .i64 9]) (by simp[results,results19,go_sem,wo,wu]) rfl ⟨rfl,ax (l:=[.string ⟨#[]⟩,.string ⟨#[]⟩]) (i:=0) (by omega) w9.o⟩
theorem z0u (a:Option Addr)(n c:Nat)(hn:1024<n)(w:World):CR 19 #[.slice a n c] w (.tuple #[.agg #[.string ⟨#[]⟩,.string ⟨#[]⟩],.int .i64 8]):=by
 have e0:¬ (n:Int)=0:=by omega
 have e1:(1024:Int)<(n:Int):=by omega
 clear hn;go_enter func19,ntmps19
 go_upto_region 1 with fail
 refine ay w [(#[.string ⟨#[]⟩,.string ⟨#[]⟩],24)] rfl ?_;rintro W0 ⟨k1,hb⟩;have w9:=hid (show Below w.heap.size w W0 from hb);have K1:=hid k1;clear k1 hb;obtain ⟨wo,wu⟩:=av K1.o rfl rfl;obtain ⟨ww,si⟩:=bF K1.o;go_wp2;exact bodyPost_ret (v:=.tuple #[.agg #[.string ⟨#[]⟩,.string ⟨#[]⟩],.int .i64 8]) (by simp[results,results19,go_sem,wo,wu]) rfl ⟨rfl,ax (l:=[.string ⟨#[]⟩,.string ⟨#[]⟩]) (i:=0) (by omega) w9.o⟩
theorem z0v (g o n c:Nat)(X:Nat→ByteArray)(q:Nat→Rat)(V:Nat→Bool)(v:Value)(hv:HuV V q n=v)(hn1:1≤n)(hn2:n≤1024)(hnc:n≤c)(w:World)(hl:La w)(hL:LI w g o n X)
 (hV:∀ i,i<n→CL 27 #[.agg #[.string (X (i*2)),.string (X (i*2+1))]] (.bool (V i)))
 (hq:∀ i,i<n→V i=true→X (i*2)=Sq (q (2*i))∧X (i*2+1)=Sq (q (2*i+1))∧aT (q (2*i))∧aT (q (2*i+1))) :
 Calls Tryz.prog 19 #[.slice (some ⟨g,o,none⟩) n c] w fun e w'=>e=.returned v∧Below w.heap.size w w':=by
 obtain⟨i0,hi,hz0,hz1,hz2⟩:=xg;obtain⟨w0,hw0⟩:∃ w0:World,w0=w.alloc (.cells #[.string ⟨#[]⟩,.string ⟨#[]⟩] 24):=⟨_,rfl⟩;have hs0:w0.heap.size=w.heap.size+1:=by rw[hw0];simp
 have hb0:Below w.heap.size w w0:=by rw[hw0];exact cZ w _
 have hr0:w0.cell? ⟨w.heap.size,0,none⟩=some (.string ⟨#[]⟩)∧w0.cell? ⟨w.heap.size,1,none⟩=some (.string ⟨#[]⟩)∧w0.frozen? ⟨w.heap.size,0,none⟩=false∧w0.frozen? ⟨w.heap.size,1,none⟩=false:=by
  rw[hw0];exact⟨(aB rfl).trans rfl,(aB rfl).trans rfl,aW rfl,aW rfl⟩
 obtain ⟨HQ,HV,HZ⟩:=ak hq hV hv;have KB:=hid (show ∀ W:World,Below w0.heap.size w0 W→Below w.heap.size w W from fun W hB=>hb0.trans (hB.mono (by omega)));have HC:=hid (show ∀ W:World,Below w0.heap.size w0 W→LI W g o n X from fun W hB=>hL.below (KB.o W hB))
 have KR:=hid (show ∀ W:World,Below w0.heap.size w0 W→(W.cell? ⟨w.heap.size,0,none⟩=some (.string ⟨#[]⟩)∧W.cell? ⟨w.heap.size,1,none⟩=some (.string ⟨#[]⟩)∧W.frozen? ⟨w.heap.size,0,none⟩=false∧W.frozen? ⟨w.heap.size,1,none⟩=false) from fun W hB=>by
  obtain⟨c0,c1,f0,f1⟩:=hr0
  exact⟨(hB.cell (p:=⟨w.heap.size,0,none⟩) (by show w.heap.size<_;omega)).trans c0,(hB.cell (p:=⟨w.heap.size,1,none⟩) (by show w.heap.size<_;omega)).trans c1,(hB.frozen (p:=⟨w.heap.size,0,none⟩) (by show w.heap.size<_;omega)).trans f0,(hB.frozen (p:=⟨w.heap.size,1,none⟩) (by show w.heap.size<_;omega)).trans f1⟩)
 have HL:=hid (show ∀ W:World,Below w0.heap.size w0 W→La W from fun W hB=>hl.on (KB.o W hB));have KZ:=hid (show ∀ W:World,Below w0.heap.size w0 W→w.heap.size+1≤W.heap.size from fun W hB=>by have:=hB.size;omega);obtain ⟨F0,HS,HW0⟩:=ak (Below.refl w0.heap.size w0) hs0 hw0;have ne0:¬ (n:Int)=0:=by omega
 have ne1:¬ (1024:Int)<(n:Int):=by omega
 have nc:(n:Int)≤(c:Int):=by omega
 clear hq hv hV hL hb0 hr0 hl hs0 hw0;go_enter func19,ntmps19
 go_wp2;rw[← HW0.o];go_loopw [4,6,17] (fun v _ ii wr=>∃ (i:Nat),i≤n∧ii=.int .i64 (i:Int)∧Hid (∀ j,j<i→V j=true)∧Hid (wr.ownsRow w0.heap.size 22 1 v (2*i) (hcells q (2*i)))∧Hid (Below w0.heap.size w0 wr)) (fun _ _ ii _=>n-(intOf ii).toNat)
 case atStart=>exact⟨0,by omega,rfl,hid (fun j hj=>by omega),hid (World.ownsRow_nil w0 w0.heap.size 22 1),F0⟩
 case round =>
  obtain⟨i,hin,rfl,HA,hO,hF⟩:=hrel;have hi2:(i:Int)≤1024:=by omega
  have hi3:(0:Int)≤(i:Int):=by omega
  have wi:IntKind.i64.wrap ((i:Int)+1)=(i:Int)+1:=IntWalk.i64_in _ (by omega);by_cases hlt:i<n
  · obtain⟨c0,c1⟩:=(HC.o _ hF.o).at hlt
    obtain ⟨CV0,FQ0,HNX⟩:=ak (HV.o i hlt) (HQ.o i hlt) (pV q i);have eX:=hid (show ∀ b,V i=b→V i=b from fun b h=>h);generalize hx:X (i*2)=x at *;generalize hy:X (i*2+1)=y at *;clear hx hy eX;have hlt1:(i:Int)<(n:Int):=by omega
    go_wp2_with fail
    obtain ⟨F1,O1⟩:=aC (hF.o.alloc hF.o.size (.cells #[.string x,.string y] 24)) (hO.o.alloc (.cells #[.string x,.string y] 24));refine(CV0.o _ (HL.o _ F1.o)).mono ?_;rintro e w1 ⟨rfl,hb⟩;obtain ⟨V2,F2,O2⟩:=ak ((xJ wr x y).mono hb) (ai F1.o hb) (own_below O1.o hb);clear hb c0 c1 F1 O1 CV0
    cases hVi:V i with
    | false =>
      obtain rfl:v=.tuple #[.agg #[.string ⟨#[]⟩,.string ⟨#[]⟩],.int .i64 1]:=by rw[← HZ.o];exact z3M hlt hVi
      clear HZ;obtain⟨m0,m1,n0,n1⟩:=KR.o _ F2.o;have hz:=KZ.o _ F2.o;go_wp2;refine bodyPost_ret (v:=.tuple #[.agg #[.string ⟨#[]⟩,.string ⟨#[]⟩],.int .i64 1]) (by simp[results,results19,go_sem,m0,m1]) rfl ⟨rfl,?_⟩;exact((KB.o _ F2.o).setCell (p:=⟨w.heap.size,0,none⟩) (Nat.le_refl _) _).setCell (p:=⟨w.heap.size,1,none⟩) (Nat.le_refl _) _
    | true =>
      obtain⟨rfl,rfl,FX,FY⟩:=FQ0.o hVi;clear FQ0
      have HA1:=hid (show ∀ j,j<i+1→V j=true from fun j hj=>by
       by_cases h:j=i
       · rw[h];exact hVi
       · exact HA.o j (by omega))
      obtain ⟨FX,FY⟩:=aC FX FY;generalize q (2*i)=xq at *;generalize q (2*i+1)=yq at *;obtain⟨_,c0,c1⟩:=V2.o;go_wp2_with (at_builtin;refine wpList_append_own _ rfl _ _ 71 rfl w0.heap.size 22 i0 (.string ⟨#[]⟩) 1 16 underlying71 hi hz0 hz1 hz2 rfl (by decide) _ (2*i) (hcells q (2*i)) rfl (O2.o.alloc _) ⟨w1.heap.size,0,none⟩ 2 2 [.string (Sq xq),.string (Sq yq)] rfl rfl (oZ _ _ _ _) (by intro u hu;simp at hu;rcases hu with rfl|rfl<;>rfl) (by unfold maxLen;omega) (by omega) (by have:=F2.o.size;simp;omega) ?_)
      intro v' w2 hown hgrow _;rw[HNX.o]at hown;have F3:=hid ((F2.o.alloc F2.o.size _).grown hgrow (by have:=F2.o.size;simp;omega) (fun k hk=>(O2.o.lt k hk).1));have O3:=hid hown;clear hown hgrow;go_wp2;go_roundw
      case rel=>exact⟨i+1,by omega,by go_num,HA1,O3,F3⟩
      case measure=>simp[intOf];omega
  · have hge:decide ((i:Int)<(n:Int))=false:=by rw[decide_eq_false_iff_not];omega
    obtain rfl:i=n:=by omega
    obtain rfl:v=_:=HZ.o.symm.trans (z1m HA.o);clear HZ;have HQ:=hid (show ∀ j,j<2*i→aT (q j) from z5p HA.o (fun j hj=>HQ.o j hj));obtain⟨g1,cap,rfl,hg1,hg2,hcap,hcs⟩:=xw hO.o (by omega);have CE:=hid (gu g1 (2*i) cap q (by omega) (by omega) hcap wr (HL.o _ hF.o) hg2 HQ.o (fun j hj=>hcs j _ (pW q hj)));clear hO hcs;go_wp2_with fail
    refine CE.o.mono ?_;rintro e w1 ⟨rfl,hb⟩;have F1:=hid (ai hF.o hb);clear hb;obtain⟨m0,m1,n0,n1⟩:=KR.o _ F1.o;go_wp2;refine bodyPost_ret (v:=.tuple #[.agg #[.string (Sq (exOf q (2*i-1)).1),.string (Sq (exOf q (2*i-1)).2)],.int .i64 0]) (by simp[results,results19,go_sem,m0,m1]) rfl ⟨rfl,?_⟩;exact((KB.o _ F1.o).setCell (p:=⟨w.heap.size,0,none⟩) (Nat.le_refl _) _).setCell (p:=⟨w.heap.size,1,none⟩) (Nat.le_refl _) _
