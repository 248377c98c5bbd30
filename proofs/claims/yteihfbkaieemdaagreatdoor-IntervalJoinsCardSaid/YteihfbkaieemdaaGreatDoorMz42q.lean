/- texts -/
import Derived.Test.YteihfbkaieemdaaGreatDoorMz37q
import Derived.Test.YteihfbkaieemdaaGreatDoorMz40q
import Derived.Test.YteihfbkaieemdaaGreatDoorSu
open Go.Proofs.Tryz
namespace Go.Proofs.YteihfbkaieemdaaGreatDoor
open Go.RowKit Go.Gb
theorem kg {q:Rat}{k:Nat}(h:SmQ k q)(h0:0<k)(hk:k≤10000):LQ q:=⟨Nat.le_trans (ib h.1 h0) hk,Nat.le_trans (ib h.2 h0) hk⟩
theorem zL (a:ByteArray)(ha:a.size≤900):∃ q:Rat,∀ W,Calls Tryz.prog 71 #[.string a] W fun e w'=>∃ p c s d,e=.returned (.tuple #[.agg #[.bool (ah q.num),.slice p (aa q.num) c,.slice s (ag q.den) d],.bool (vldQ a.data.toList)])∧RN w' (.slice p (aa q.num) c) q.num.natAbs∧RN w' (.slice s (ag q.den) d) q.den∧Below W.heap.size W w':=by
 cases h:vldQ a.data.toList with
 | false=>exact⟨0,fun W=>z1D a h ha W⟩
 | true =>
   have e:=z3N h;obtain⟨q,hq⟩:∃ q,q=qval a.data.toList:=⟨_,rfl⟩;rw[← hq]at e;subst e;exact⟨q,fun W=>z5A q (zF ha (by decide)) (by omega) W⟩
theorem z0I (p:Rat × Rat)(x:Rat):(fM p x).1≤p.1∧p.2≤(fM p x).2:=by
 unfold fM
 split
 · constructor<;>grind
 · split
   · constructor<;>grind
   · constructor<;>grind
theorem uj (p:Rat × Rat)(x:Rat)(h:p.1≤p.2):(fM p x).1≤x∧x≤(fM p x).2:=by
 unfold fM
 split
 · constructor<;>grind
 · split
   · constructor<;>grind
   · constructor<;>grind
theorem pW (q:Nat→Rat):∀ n,(exOf q n).1≤(exOf q n).2
 | 0=>Rat.le_refl
 | n+1=>by
   have h:=pW q n;have h2:=uj (exOf q n) (q (n+1)) h;show(fM (exOf q n) (q (n+1))).1≤(fM (exOf q n) (q (n+1))).2
   grind
theorem ry (q:Nat→Rat):∀ n i,i≤n→(exOf q n).1≤q i∧q i≤(exOf q n).2
 | 0,i,h=>by
   obtain rfl:i=0:=by omega
   exact⟨Rat.le_refl,Rat.le_refl⟩
 | n+1,i,h=>by
   have h1:=z0I (exOf q n) (q (n+1));have h2:=uj (exOf q n) (q (n+1)) (pW q n);by_cases hi:i=n+1
   · subst hi;exact h2
   · have h3:=ry q n i (by omega)
     exact⟨Rat.le_trans h1.1 h3.1,Rat.le_trans h3.2 h1.2⟩
theorem mV (q:Nat→Rat):∀ n,(∃ i,i≤n∧(exOf q n).1=q i)∧(∃ i,i≤n∧(exOf q n).2=q i)
 | 0=>⟨⟨0,Nat.le_refl _,rfl⟩,⟨0,Nat.le_refl _,rfl⟩⟩
 | n+1=>by
   obtain⟨⟨i,hi,h1⟩,⟨j,hj,h2⟩⟩:=mV q n;show(∃ i,i≤n+1∧(fM (exOf q n) (q (n+1))).1=q i)∧(∃ i,i≤n+1∧(fM (exOf q n) (q (n+1))).2=q i)
   unfold fM
   split
   · exact⟨⟨n+1,Nat.le_refl _,rfl⟩,⟨j,by omega,h2⟩⟩
   · split
     · exact⟨⟨i,by omega,h1⟩,⟨n+1,Nat.le_refl _,rfl⟩⟩
     · exact⟨⟨i,by omega,h1⟩,⟨j,by omega,h2⟩⟩
theorem qF (p0 p1:Rat):((exOf (row2 p0 p1) 1).1≤p0∧(exOf (row2 p0 p1) 1).1≤p1)∧(p0≤(exOf (row2 p0 p1) 1).2∧p1≤(exOf (row2 p0 p1) 1).2):=by
 have h:=ry (row2 p0 p1) 1;exact⟨⟨(h 0 (by decide)).1,(h 1 (by decide)).1⟩,⟨(h 0 (by decide)).2,(h 1 (by decide)).2⟩⟩
theorem mQ (p0 p1:Rat):((exOf (row2 p0 p1) 1).1=p0∨(exOf (row2 p0 p1) 1).1=p1)∧((exOf (row2 p0 p1) 1).2=p0∨(exOf (row2 p0 p1) 1).2=p1):=by
 obtain⟨⟨i,hi,e⟩,⟨j,hj,f⟩⟩:=mV (row2 p0 p1) 1;rw[e,f];constructor
 · match i,hi with
   | 0,_=>exact Or.inl rfl
   | 1,_=>exact Or.inr rfl
 · match j,hj with
   | 0,_=>exact Or.inl rfl
   | 1,_=>exact Or.inr rfl
def Iv (g:Nat) (x y:ByteArray) (W:World):Prop:=g<W.heap.size∧W.cell? ⟨g,0,none⟩=some (.string x)∧W.cell? ⟨g,1,none⟩=some (.string y)
theorem Iv.mono {g:Nat}{x y:ByteArray}{W W':World}(h:Iv g x y W)(hb:Below W.heap.size W W'):Iv g x y W' :=
 ⟨Nat.lt_of_lt_of_le h.1 hb.size,(hb.cell (p:=⟨g,0,none⟩) h.1).trans h.2.1,(hb.cell (p:=⟨g,1,none⟩) h.1).trans h.2.2⟩
theorem bZ (W:World)(o:Obj):Below W.heap.size W (W.alloc o):=(Below.refl W.heap.size W).alloc (Nat.le_refl _) o
theorem Iv.al {g:Nat}{x y:ByteArray}{W:World}(h:Iv g x y W)(o:Obj):Iv g x y (W.alloc o):=h.mono (bZ W o)
theorem xG (W:World)(x y:ByteArray):Iv W.heap.size x y (W.alloc (.cells #[.string x,.string y] 24)) :=
 ⟨by simp,(aC rfl).trans rfl,(aC rfl).trans rfl⟩theorem iv_boxg {W:World} {g:Nat} (hg:g=W.heap.size) (x y:ByteArray):Iv g x y (W.alloc (.cells #[.string x,.string y] 24)):=by subst hg;exact xG W x y
theorem eF (a b:ByteArray)(w:World):CR 24 #[.string a,.string b] w (.agg #[.string a,.string b]):=by
 have HB:=Lib.hid (bZ w (.cells #[.string a,.string b] 24));go_enter func24,ntmps24
 go_wp2;exact bodyPost_ret (v:=.agg #[.string a,.string b]) (by simp[results,results24,go_sem]) rfl ⟨rfl,HB.o⟩
theorem uM (w:World)(a b:ByteArray):(w.alloc (.cells #[.string a,.string b] 22)).cell? ⟨w.heap.size,0,none⟩=some (.string a)∧(w.alloc (.cells #[.string a,.string b] 22)).cell? ⟨w.heap.size,1,none⟩=some (.string b):=by
 refine⟨?_,?_⟩<;>simp
theorem z1Z (g:Nat)(a b:ByteArray)(w:World)(ha:a.size≤40)(hb:b.size≤40)(hc:w.cell? ⟨g,0,none⟩=some (.string a)∧w.cell? ⟨g,1,none⟩=some (.string b)) :
 Calls Tryz.prog 31 #[.slice (some ⟨g,0,none⟩) 2 2] w fun e w'=>e=.returned (.bool false)∧w=w':=by
 obtain⟨c0,c1⟩:=hc;have ka:¬ (40:Int)<(a.size:Int):=by omega
 have kb:¬ (40:Int)<(b.size:Int):=by omega
 go_enter func31,ntmps31
 go_wp2;refine wp_loop_rounds 3 ?_;rw[rounds_succ];go_wp2;rw[rounds_succ];go_wp2;rw[rounds_succ];go_wp2;go_ret
 exact⟨rfl,rfl⟩
theorem z0g (g:Nat)(a b:ByteArray)(w:World)(hab:40<a.size∨40<b.size)(hc:w.cell? ⟨g,0,none⟩=some (.string a)∧w.cell? ⟨g,1,none⟩=some (.string b)) :
 Calls Tryz.prog 31 #[.slice (some ⟨g,0,none⟩) 2 2] w fun e w'=>e=.returned (.bool true)∧w=w':=by
 obtain⟨c0,c1⟩:=hc;by_cases ha:40<a.size
 · have ka:(40:Int)<(a.size:Int):=by omega
   clear hab;go_enter func31,ntmps31
   go_wp2;refine wp_loop_rounds 3 ?_;rw[rounds_succ];go_wp2;go_ret
   exact⟨rfl,rfl⟩
 · have ka:¬ (40:Int)<(a.size:Int):=by omega
   have kb:(40:Int)<(b.size:Int):=by omega
   clear hab;go_enter func31,ntmps31
   go_wp2;refine wp_loop_rounds 3 ?_;rw[rounds_succ];go_wp2;rw[rounds_succ];go_wp2;go_ret
   exact⟨rfl,rfl⟩
end Go.Proofs.YteihfbkaieemdaaGreatDoor
set_option maxRecDepth 100000
set_option maxHeartbeats 20000000
namespace Go.Proofs.YteihfbkaieemdaaGreatDoor
open Go.RowKit Go.Gb
theorem z3F (x y:ByteArray)(r:Bool)(hr:(decide (40<x.size) || decide (40<y.size))=r)(w:World) :
 CR 30 #[.agg #[.string x,.string y]] w (.bool r):=by
 have HI:=Lib.hid (xG w x y);have HB:=Lib.hid ((bZ w (.cells #[.string x,.string y] 24)).alloc (by simp) (.cells #[.string x,.string y] 22));have hc:=uM (w.alloc (.cells #[.string x,.string y] 24)) x y;rw[show(w.alloc (.cells #[.string x,.string y] 24)).heap.size=w.heap.size+1 by simp]at hc
 have HC:Hid (Calls Tryz.prog 31 #[.slice (some ⟨w.heap.size+1,0,none⟩) 2 2] ((w.alloc (.cells #[.string x,.string y] 24)).alloc (.cells #[.string x,.string y] 22)) fun e w'=>e=.returned (.bool r)∧((w.alloc (.cells #[.string x,.string y] 24)).alloc (.cells #[.string x,.string y] 22))=w'):=Lib.hid (by
  by_cases h:40<x.size∨40<y.size
  · have e:r=true:=by rw[← hr];simpa using h
    subst e;exact z0g _ x y _ h hc
  · have e:r=false:=by rw[← hr];simp;omega
    subst e
    exact z1Z _ x y _ (by omega) (by omega) hc)
 clear hc hr;go_enter func30,ntmps30
 obtain⟨_,m0,m1⟩:=HI.o;go_wp2_with fail
 refine HC.o.mono ?_;rintro e w' ⟨rfl,rfl⟩;go_wp2;go_ret
 exact⟨rfl,HB.o⟩
theorem yC (w:World)(l1 h1 l2 h2:ByteArray):(w.alloc (.cells #[.string l1,.string h1,.string l2,.string h2] 24)).cell? ⟨w.heap.size,0,none⟩=some (.string l1)∧(w.alloc (.cells #[.string l1,.string h1,.string l2,.string h2] 24)).cell? ⟨w.heap.size,1,none⟩=some (.string h1)∧(w.alloc (.cells #[.string l1,.string h1,.string l2,.string h2] 24)).cell? ⟨w.heap.size,2,none⟩=some (.string l2)∧(w.alloc (.cells #[.string l1,.string h1,.string l2,.string h2] 24)).cell? ⟨w.heap.size,3,none⟩=some (.string h2) :=
 ⟨(aC rfl).trans rfl,(aC rfl).trans rfl,(aC rfl).trans rfl,(aC rfl).trans rfl⟩
abbrev CV (w:World) (f:Nat) (args:Array Value) (v:Value):Prop:=∀ W,Below w.heap.size w W→Calls Tryz.prog f args W fun e w'=>e=.returned v∧Below W.heap.size W w'
theorem CV.mono {w W:World}{f:Nat}{args:Array Value}{v:Value}(h:CV w f args v)(hb:Below w.heap.size w W):CV W f args v:=fun X hX=>h X (hb.trans (hX.mono hb.size))
theorem CV.at {w:World}{f:Nat}{args:Array Value}{v:Value}(h:CV w f args v):Calls Tryz.prog f args w fun e w'=>e=.returned v∧Below w.heap.size w w':=h w (Below.refl _ _)
theorem glq {q:Rat}(h:SmQ 40 q):LQ q:=kg h (by decide) (by decide)
theorem gF {x:Rat}(hx:SmQ 40 x):KSb 71 (.string (Sq x)) x true:=ksb (fun W=>z3p x (hx.mono (by decide)) (by have:=zu (hx.mono (by decide:40≤900)) (by decide);omega) W)
theorem z4l {a:ByteArray}(ha:a.size≤40)(h:vldQ a.data.toList=false):∃ x,KSb 71 (.string a) x false:=by
 obtain⟨x,hx⟩:=zL a (by omega);rw[h]at hx;exact⟨x,ksb hx⟩
theorem gCmp {x y:Rat}(hx:SmQ 40 x)(hy:SmQ 40 y):KP2 54 x y (.int .i64 (cmpQ x y)):=kp2 (z3O x y _ rfl (glq hx) (glq hy))
theorem z4s (x y:Rat):decide (cmpQ x y≤0)=decide (x≤y):=by
 rcases eT x y with⟨h,e⟩|⟨h,e⟩|⟨h,e⟩<;>rw[e,decide_eq_decide]<;>grind
theorem g1 (a:ByteArray)(ha:a.size≤40):(∃ x,a=Sq x∧SmQ 40 x)∨vldQ a.data.toList=false:=by
 cases hv:vldQ a.data.toList with
 | true =>
   have e:=z3N hv;exact Or.inl ⟨_,e,zF (by rwa [← e]) (by decide)⟩
 | false=>exact Or.inr rfl
theorem g40 {x:Rat}(h:SmQ 40 x):aR x:=h.fit (by decide)
theorem pIV (l u:ByteArray)(hl:l.size≤40)(hu:u.size≤40):∃ (b:Bool) (xa xb:Rat),KIb 46 (.agg #[.string l,.string u]) xa xb b ∧
 (CL 27 #[.agg #[.string l,.string u]] (.bool b))∧(b=true→l=Sq xa∧u=Sq xb∧SmQ 40 xa∧SmQ 40 xb∧xa≤xb):=by
 rcases g1 l hl with⟨x,rfl,hx⟩|hv
 · rcases g1 u hu with⟨y,rfl,hy⟩|hv
   · refine⟨decide (x≤y),x,y,fun W=>z0z _ _ x y _ _ W (z4s x y) (gF hx) (gF hy) (gCmp hx hy),fun W hW=>?_,fun h=>⟨rfl,rfl,hx,hy,of_decide_eq_true h⟩⟩
     by_cases h:x≤y
     · rw[decide_eq_true h];exact bS x y h (g40 hx) (g40 hy) W hW
     · rw[decide_eq_false h];exact z0n x y (by grind) (g40 hx) (g40 hy) W hW
   · obtain⟨y,hy⟩:=z4l hu hv
     exact⟨false,x,y,fun W=>z2w _ _ x y W (gF hx) hy,fun W hW=>lM _ _ (by rw[hv,Bool.and_false]) (by omega) (by omega) W hW,fun h=>by cases h⟩
 · obtain⟨x,hx⟩:=z4l hl hv
   rcases g1 u hu with⟨y,rfl,hy⟩|hv2
   · exact⟨false,x,y,fun W=>xJ _ _ x y true W hx (gF hy),fun W hW=>lM _ _ (by rw[hv,Bool.false_and]) (by omega) (by omega) W hW,fun h=>by cases h⟩
   · obtain⟨y,hy⟩:=z4l hu hv2
     exact⟨false,x,y,fun W=>xJ _ _ x y false W hx hy,fun W hW=>lM _ _ (by rw[hv,Bool.false_and]) (by omega) (by omega) W hW,fun h=>by cases h⟩
def lstQ (x y:Rat):Rat:=if cmpQ x y≤0 then x else y
def mstQ (x y:Rat):Rat:=if 0≤cmpQ x y then x else y
theorem z4b (x y:Rat):lstQ x y≤x∧lstQ x y≤y:=by
 unfold lstQ
 rcases eT x y with⟨h,e⟩|⟨h,e⟩|⟨h,e⟩<;>rw[e]<;>simp<;>grind
theorem z3Z (x y:Rat):x≤mstQ x y∧y≤mstQ x y:=by
 unfold mstQ
 rcases eT x y with⟨h,e⟩|⟨h,e⟩|⟨h,e⟩<;>rw[e]<;>simp<;>grind
theorem xC (x y:Rat):lstQ x y=x∨lstQ x y=y:=by
 unfold lstQ
 split
 · exact Or.inl rfl
 · exact Or.inr rfl
theorem xz (x y:Rat):mstQ x y=x∨mstQ x y=y:=by
 unfold mstQ
 split
 · exact Or.inl rfl
 · exact Or.inr rfl
theorem z4N {k:Nat}{x y:Rat}(hx:SmQ k x)(hy:SmQ k y):SmQ k (lstQ x y):=by rcases xC x y with e|e<;>rw[e]<;>assumption
theorem z4M {k:Nat}{x y:Rat}(hx:SmQ k x)(hy:SmQ k y):SmQ k (mstQ x y):=by rcases xz x y with e|e<;>rw[e]<;>assumption
theorem z2G (q:Nat→Rat)(n:Nat){m:Rat}(h1:∀ i,i≤n→m≤q i)(h2:∃ i,i≤n∧m=q i):(exOf q n).1=m:=by
 obtain⟨i,hi,e⟩:=h2;obtain⟨j,hj,f⟩:=(mV q n).1;have a:=(ry q n i hi).1;have b:=h1 j hj;grind
theorem z4p (q:Nat→Rat)(n:Nat){m:Rat}(h1:∀ i,i≤n→q i≤m)(h2:∃ i,i≤n∧m=q i):(exOf q n).2=m:=by
 obtain⟨i,hi,e⟩:=h2;obtain⟨j,hj,f⟩:=(mV q n).2;have a:=(ry q n i hi).2;have b:=h1 j hj;grind
end Go.Proofs.YteihfbkaieemdaaGreatDoor
open Go.Lib (hid)
namespace Go.Proofs.YteihfbkaieemdaaGreatDoor
open Go.RowKit Go.Gb
def hcells (q:Nat→Rat) (m:Nat):List Value:=(List.range m).map fun j => .string (Sq (q j))
theorem pU (q:Nat→Rat)(i:Nat):hcells q (2*i)++[.string (Sq (q (2*i))),.string (Sq (q (2*i+1)))]=hcells q (2*i+2):=by
 unfold hcells
 rw[List.range_succ,List.range_succ];simp
theorem pV (q:Nat→Rat){m i:Nat}(h:i<m):(hcells q m)[i]? = some (.string (Sq (q i))):=by
 unfold hcells
 simp[h]
theorem xn {W:World}{base n:Nat}{e:TypeId}{v:Value}{xs:List Value}(h:W.ownsRow base e 1 v n xs)(hn:0<n) :
 ∃ g cap,v=.slice (some ⟨g,0,none⟩) n cap∧base≤g∧g<W.heap.size∧n≤cap∧∀ i x,xs[i]? = some x→W.cell? ⟨g,i,none⟩=some x:=by
 obtain⟨h1,h2⟩:=h;rcases h2 with⟨h2,h3⟩|⟨g,cap,cur,hv,hg,hh,hn2,hc,hs,ht⟩
 · omega
 · refine⟨g,cap,hv,hg,(Array.getElem?_eq_some_iff.1 hh).1,hn2,fun i x hx=>?_⟩
   have hi:i<n:=by
    have:=(List.getElem?_eq_some_iff.1 hx).1;omega
   rw[← ht,Nat.mul_one,List.getElem?_take,if_pos hi]at hx;simp only[World.cell?,hh];simpa using hx
theorem own_below {W W':World}{base n:Nat}{e:TypeId}{v:Value}{xs:List Value}(h:W.ownsRow base e 1 v n xs)(hb:Below W.heap.size W W'):W'.ownsRow base e 1 v n xs:=by
 obtain⟨h1,h2⟩:=h;refine⟨h1,?_⟩;rcases h2 with h2|⟨g,cap,cur,hv,hg,hh,r⟩
 · exact Or.inl h2
 · exact Or.inr ⟨g,cap,cur,hv,hg,by rw[hb.block g (Array.getElem?_eq_some_iff.1 hh).1];exact hh,r⟩
theorem oW (w:World)(u v:Value)(T:TypeId):∀ j x,[u,v][j]? = some x→(w.alloc (.cells #[u,v] T)).cell? ((⟨w.heap.size,0,none⟩:Addr).add j)=some x:=by
 intro j x hj
 match j,hj with
 | 0,hj=>simp at hj;subst hj;simp[Addr.add]
 | 1,hj=>simp at hj;subst hj;simp[Addr.add]
theorem xe:∃ i0:TypeInfo,Tryz.prog.info? 22=some i0∧i0.zero=some (.string ⟨#[]⟩)∧i0.size=1∧i0.bytes=16:=by
 have h1:(Tryz.prog.info? 22).map (fun i=>i.zero)=some (some (.string ⟨#[]⟩)):=by kernel_rfl
 have h2:(Tryz.prog.info? 22).map (fun i=>i.size)=some 1:=by kernel_rfl
 have h3:(Tryz.prog.info? 22).map (fun i=>i.bytes)=some 16:=by kernel_rfl
 cases h:Tryz.prog.info? 22 with
 | none=>rw[h]at h1;cases h1
 | some i =>
   rw[h]at h1 h2 h3;exact⟨i,rfl,by simpa using h1,by simpa using h2,by simpa using h3⟩
theorem z2q (g n c:Nat)(q:Nat→Rat)(hn1:1≤n)(hn2:n≤1024)(hnc:n≤c)(w:World)(hl:La w)(hg:g<w.heap.size)
 (hq:∀ i,i<2*n→aR (q i)) (hv:∀ i,i<n→q (2*i)≤q (2*i+1)) (hcell:∀ i,i<2*n→w.cell? ⟨g,i,none⟩=some (.string (Sq (q i)))) :
 CR 19 #[.slice (some ⟨g,0,none⟩) n c] w (.tuple #[Vq (exOf q (2*n-1)).1 (exOf q (2*n-1)).2,.int .i64 0]):=by
 obtain⟨i0,hi,hz0,hz1,hz2⟩:=xe;obtain⟨w0,hw0⟩:∃ w0:World,w0=w.alloc (.cells #[.string ⟨#[]⟩,.string ⟨#[]⟩] 24):=⟨_,rfl⟩;have hs0:w0.heap.size=w.heap.size+1:=by rw[hw0];simp
 have hb0:Below w.heap.size w w0:=by rw[hw0];exact bZ w _
 have hr0:w0.cell? ⟨w.heap.size,0,none⟩=some (.string ⟨#[]⟩)∧w0.cell? ⟨w.heap.size,1,none⟩=some (.string ⟨#[]⟩)∧w0.frozen? ⟨w.heap.size,0,none⟩=false∧w0.frozen? ⟨w.heap.size,1,none⟩=false:=by
  rw[hw0];exact⟨(aC rfl).trans rfl,(aC rfl).trans rfl,aX rfl,aX rfl⟩
 have HQ:=hid hq;have HV:=hid hv;have KB:=hid (show ∀ W:World,Below w0.heap.size w0 W→Below w.heap.size w W from fun W hB=>hb0.trans (hB.mono (by omega)));have HC:=hid (show ∀ W:World,Below w0.heap.size w0 W→∀ i,i<2*n→W.cell? ⟨g,i,none⟩=some (.string (Sq (q i))) from fun W hB i hi'=>((KB.o W hB).cell (p:=⟨g,i,none⟩) hg).trans (hcell i hi'))
 have KR:=hid (show ∀ W:World,Below w0.heap.size w0 W→(W.cell? ⟨w.heap.size,0,none⟩=some (.string ⟨#[]⟩)∧W.cell? ⟨w.heap.size,1,none⟩=some (.string ⟨#[]⟩)∧W.frozen? ⟨w.heap.size,0,none⟩=false∧W.frozen? ⟨w.heap.size,1,none⟩=false) from fun W hB=>by
  obtain⟨c0,c1,f0,f1⟩:=hr0
  exact⟨(hB.cell (p:=⟨w.heap.size,0,none⟩) (by show w.heap.size<_;omega)).trans c0,(hB.cell (p:=⟨w.heap.size,1,none⟩) (by show w.heap.size<_;omega)).trans c1,(hB.frozen (p:=⟨w.heap.size,0,none⟩) (by show w.heap.size<_;omega)).trans f0,(hB.frozen (p:=⟨w.heap.size,1,none⟩) (by show w.heap.size<_;omega)).trans f1⟩)
 have HL:=hid (show ∀ W:World,Below w0.heap.size w0 W→La W from fun W hB=>hl.on (KB.o W hB));have KZ:=hid (show ∀ W:World,Below w0.heap.size w0 W→w.heap.size+1≤W.heap.size from fun W hB=>by have:=hB.size;omega);obtain ⟨F0,HS,HW0⟩:=ak (Below.refl w0.heap.size w0) hs0 hw0;have ne0:¬ (n:Int)=0:=by omega
 have ne1:¬ (1024:Int)<(n:Int):=by omega
 have nc:(n:Int)≤(c:Int):=by omega
 clear hq hv hcell hb0 hr0 hl hs0 hw0;go_enter func19,ntmps19
 go_wp2;rw[← HW0.o];go_loopw [4,6,17] (fun v _ ii wr=>∃ (i:Nat),i≤n∧ii=.int .i64 (i:Int)∧Hid (wr.ownsRow w0.heap.size 22 1 v (2*i) (hcells q (2*i)))∧Hid (Below w0.heap.size w0 wr)) (fun _ _ ii _=>n-(intOf ii).toNat)
 case atStart=>exact⟨0,by omega,rfl,hid (World.ownsRow_nil w0 w0.heap.size 22 1),F0⟩
 case round =>
  obtain⟨i,hin,rfl,hO,hF⟩:=hrel;have hi2:(i:Int)≤1024:=by omega
  have hi3:(0:Int)≤(i:Int):=by omega
  have wi:IntKind.i64.wrap ((i:Int)+1)=(i:Int)+1:=IntWalk.i64_in _ (by omega);by_cases hlt:i<n
  · have c0:wr.cell? ⟨g,i*2,none⟩=some (.string (Sq (q (2*i)))):=by rw[Nat.mul_comm];exact HC.o _ hF.o (2*i) (by omega)
    have c1:wr.cell? ⟨g,i*2+1,none⟩=some (.string (Sq (q (2*i+1)))):=by rw[Nat.mul_comm];exact HC.o _ hF.o (2*i+1) (by omega)
    have FX:=hid (HQ.o (2*i) (by omega));have FY:=hid (HQ.o (2*i+1) (by omega));obtain ⟨HXY,HNX⟩:=aB (HV.o i hlt) (pU q i);generalize q (2*i)=x at *;generalize q (2*i+1)=y at *;have hlt1:(i:Int)<(n:Int):=by omega
    have CV:=hid (fun W hW=>show CR 27 #[.agg #[.string (Sq x),.string (Sq y)]] W (.bool true) from bS x y HXY.o FX.o FY.o W hW);go_wp2_with fail
    obtain ⟨F1,O1⟩:=aB (hF.o.alloc hF.o.size (.cells #[.string (Sq x),.string (Sq y)] 24)) (hO.o.alloc (.cells #[.string (Sq x),.string (Sq y)] 24));refine(CV.o _ (HL.o _ F1.o)).mono ?_;rintro e w1 ⟨rfl,hb⟩;obtain ⟨V2,F2,O2⟩:=ak ((xG wr (Sq x) (Sq y)).mono hb) (ai F1.o hb) (own_below O1.o hb);clear hb c0 c1 F1 O1 CV;obtain⟨_,c0,c1⟩:=V2.o;go_wp2_with (at_builtin;refine wpList_append_own _ rfl _ _ 71 rfl w0.heap.size 22 i0 (.string ⟨#[]⟩) 1 16 underlying71 hi hz0 hz1 hz2 rfl (by decide) _ (2*i) (hcells q (2*i)) rfl (O2.o.alloc _) ⟨w1.heap.size,0,none⟩ 2 2 [.string (Sq x),.string (Sq y)] rfl rfl (oW _ _ _ _) (by intro u hu;simp at hu;rcases hu with rfl|rfl<;>rfl) (by unfold maxLen;omega) (by omega) (by have:=F2.o.size;simp;omega) ?_)
    intro v' w2 hown hgrow _;rw[HNX.o]at hown;have F3:=hid ((F2.o.alloc F2.o.size _).grown hgrow (by have:=F2.o.size;simp;omega) (fun k hk=>(O2.o.lt k hk).1));have O3:=hid hown;clear hown hgrow;go_wp2;go_roundw
    case rel=>exact⟨i+1,by omega,by go_num,O3,F3⟩
    case measure=>simp[intOf];omega
  · have hge:decide ((i:Int)<(n:Int))=false:=by rw[decide_eq_false_iff_not];omega
    obtain rfl:i=n:=by omega
    obtain⟨g1,cap,rfl,hg1,hg2,hcap,hcs⟩:=xn hO.o (by omega);have CE:=hid (gu g1 (2*i) cap q (by omega) (by omega) hcap wr (HL.o _ hF.o) hg2 HQ.o (fun j hj=>hcs j _ (pV q hj)));clear hO hcs;go_wp2_with fail
    refine CE.o.mono ?_;rintro e w1 ⟨rfl,hb⟩;have F1:=hid (ai hF.o hb);clear hb;obtain⟨m0,m1,n0,n1⟩:=KR.o _ F1.o;go_wp2;refine bodyPost_ret (v:=.tuple #[.agg #[.string (Sq (exOf q (2*i-1)).1),.string (Sq (exOf q (2*i-1)).2)],.int .i64 0]) (by simp[results,results19,go_sem,m0,m1]) rfl ⟨rfl,?_⟩;exact((KB.o _ F1.o).setCell (p:=⟨w.heap.size,0,none⟩) (Nat.le_refl _) _).setCell (p:=⟨w.heap.size,1,none⟩) (Nat.le_refl _) _
theorem z4O (x:Rat)(z:Int)(hz:x.num / (x.den:Int)=z)(hx:LQ x)(p1:Option Addr)(c1:Nat)(s1:Option Addr)(d1:Nat)(W:World)(r1:RN W (.slice p1 (aa x.num) c1) x.num.natAbs)(t1:RN W (.slice s1 (ag x.den) d1) x.den) :
 CZ 117 #[.agg #[.bool (ah x.num),.slice p1 (aa x.num) c1,.slice s1 (ag x.den) d1]] W z :=
 zh x.num (x.den:Int) z (x.num%(x.den:Int)) x.den p1 c1 s1 d1 W (fun s d W h=>jJ false _ x.den _ (by simp) (Nat.le_trans hx.2 (by decide)) W h) (fun p1 c1 p2 c2 W h1 h2=>z5z x.num (x.den:Int) z _ hz rfl (by have:=x.den_pos;omega) (Nat.le_trans hx.1 (by decide)) (by rw[wJ];exact Nat.le_trans hx.2 (by decide)) p1 c1 p2 c2 W h1 h2) r1 t1
