/- texts -/
import Derived.Test.YtkiklcbhglpooaaGreatDoorMz38q
import Derived.Test.YtkiklcbhglpooaaGreatDoorMz43q
namespace Go.Proofs.YtkiklcbhglpooaaGreatDoor
open Go.RowKit Go.Gb
def Vq (x y:Rat):Value:=.agg #[.string (Sq x),.string (Sq y)]
theorem yX {x y:Rat}(h:x≤y):cmpQ x y≤0:=by
 rcases dA x y with⟨h,e⟩|⟨h,e⟩|⟨h,e⟩<;>rw[e]<;>grind
theorem eF (x y:Rat)(h:x≤y)(hx:aP x)(hy:aP y)(w:World)(hl:La w) :
 CR 39 #[Vq x y] w (.bool true) :=
 oZ _ _ _ (yX h) w hl (fun W hW=>rq x y _ rfl hx hy W hW)
theorem z1p (x y z:Rat)(r:Bool)(hr:decide (x≤z∧z≤y)=r)(hx:aP x)(hy:aP y)(hz:aP z)(w:World)(hl:La w) :
 CR 95 #[Vq x y,.string (Sq z)] w (.bool r):=by
 subst hr;by_cases h1:x≤z
 · by_cases h2:z≤y
   · rw[show decide (x≤z∧z≤y)=true by rw[decide_eq_true_iff];exact⟨h1,h2⟩]
     exact uk _ _ _ _ _ (yX h1) (yX h2) w hl (fun W hW=>kU x z _ rfl hx hz W hW) (fun W hW=>kU z y _ rfl hz hy W hW)
   · rw[show decide (x≤z∧z≤y)=false by rw[decide_eq_false_iff_not];exact fun h=>h2 h.2]
     exact ul _ _ _ _ (yX h1) w hl (fun W hW=>kU x z _ rfl hx hz W hW) (fun W hW=>kU z y 1 (mh (by grind)) hz hy W hW)
 · rw[show decide (x≤z∧z≤y)=false by rw[decide_eq_false_iff_not];exact fun h=>h1 h.1]
   exact um _ _ _ w hl (fun W hW=>kU x z 1 (mh (by grind)) hx hz W hW)
theorem iHas (x y z:Rat)(r:Bool)(hr:decide (x≤z∧z≤y)=r)(h:x≤y)(hx:aP x)(hy:aP y)(hz:aP z)(w:World)(hl:La w) :
 CR 38 #[Vq x y,.string (Sq z)] w (.bool r) :=
 z3l _ _ _ r w hl (fun W hW=>eF x y h hx hy W hW) (fun W hW=>jM z hz W hW) (fun W hW=>z1p x y z r hr hx hy hz W hW)
theorem iSub (a b c d s t:Rat)(hs:a-d=s)(ht:b-c=t)(h1:a≤b)(h2:c≤d)(ha:aP a)(hb:aP b)(hc:aP c)(hd:aP d)(w:World)(hl:La w) :
 CR 143 #[Vq a b,Vq c d] w (.tuple #[Vq s t,.int .i64 0]) :=
 z3j _ _ _ _ _ _ w hl (fun W hW=>eF a b h1 ha hb W hW) (fun W hW=>eF c d h2 hc hd W hW) (fun W hW=>qSub a d s hs ha hd W hW) (fun W hW=>qSub b c t ht hb hc W hW)
def row4 (p0 p1 p2 p3:Rat):Nat→Rat
 | 0=>p0
 | 1=>p1
 | 2=>p2
 | _=>p3
theorem ext4 (p0 p1 p2 p3:Rat)(f0:aP p0)(f1:aP p1)(f2:aP p2)(f3:aP p3)(W:World)(g:Nat)(hW:La W)(hg:g<W.heap.size)
 (c0:W.cell? ⟨g,0,none⟩=some (.string (Sq p0))) (c1:W.cell? ⟨g,1,none⟩=some (.string (Sq p1))) (c2:W.cell? ⟨g,2,none⟩=some (.string (Sq p2))) (c3:W.cell? ⟨g,3,none⟩=some (.string (Sq p3))) :
 CR 182 #[.slice (some ⟨g,0,none⟩) 4 4] W (.agg #[.string (Sq (exOf (row4 p0 p1 p2 p3) 3).1),.string (Sq (exOf (row4 p0 p1 p2 p3) 3).2)]) :=
 mK g 4 4 (row4 p0 p1 p2 p3) (by decide) (by decide) (by decide) W hW hg
  (fun i hi=>match i,hi with
   | 0,_=>f0
   | 1,_=>f1
   | 2,_=>f2
   | 3,_=>f3)
  (fun i hi=>match i,hi with
   | 0,_=>c0
   | 1,_=>c1
   | 2,_=>c2
   | 3,_=>c3)
theorem iMul (a b c d p0 p1 p2 p3:Rat)(e0:a*c=p0)(e1:a*d=p1)(e2:b*c=p2)(e3:b*d=p3)(h1:a≤b)(h2:c≤d)(ha:aP a)(hb:aP b)(hc:aP c)(hd:aP d)(f0:aP p0)(f1:aP p1)(f2:aP p2)(f3:aP p3)(w:World)(hl:La w) :
 CR 144 #[Vq a b,Vq c d] w (.tuple #[Vq (exOf (row4 p0 p1 p2 p3) 3).1 (exOf (row4 p0 p1 p2 p3) 3).2,.int .i64 0]) :=
 z3k _ _ _ _ _ _ w hl (fun W hW=>eF a b h1 ha hb W hW) (fun W hW=>eF c d h2 hc hd W hW)
  (fun W hW=>pg _ _ _ _ _ _ _ _ _ _ W hW (fun V hV=>qMul a c p0 e0 ha hc V hV) (fun V hV=>qMul a d p1 e1 ha hd V hV) (fun V hV=>qMul b c p2 e2 hb hc V hV) (fun V hV=>qMul b d p3 e3 hb hd V hV) (fun V g hV=>ext4 p0 p1 p2 p3 f0 f1 f2 f3 V g hV))
theorem iDiv (a b c d p0 p1 p2 p3:Rat)(e0:a / c=p0)(e1:a / d=p1)(e2:b / c=p2)(e3:b / d=p3)(h1:a≤b)(h2:c≤d)(hz:decide (c≤0∧0≤d)=false)(ha:aP a)(hb:aP b)(hc:aP c)(hd:aP d)(f0:aP p0)(f1:aP p1)(f2:aP p2)(f3:aP p3)(w:World)(hl:La w) :
 CR 108 #[Vq a b,Vq c d] w (.tuple #[Vq (exOf (row4 p0 p1 p2 p3) 3).1 (exOf (row4 p0 p1 p2 p3) 3).2,.int .i64 0]):=by
 have hz2:=of_decide_eq_false hz;have hc0:c≠0:=by rintro rfl;exact hz2 ⟨by grind,h2⟩
 have hd0:d≠0:=by rintro rfl;exact hz2 ⟨h2,by grind⟩
 have h3:=fun W hW=>z1p c d 0 false hz hc hd (zT (by decide +kernel) (by decide +kernel)) W hW;rw[q_0]at h3
 exact z3m _ _ _ _ _ _ w hl (fun W hW=>eF a b h1 ha hb W hW) (fun W hW=>eF c d h2 hc hd W hW) h3
  (fun W hW=>pz _ _ _ _ _ _ _ _ _ _ W hW (fun V hV=>qDiv a c p0 e0 ha hc hc0 V hV) (fun V hV=>qDiv a d p1 e1 ha hd hd0 V hV) (fun V hV=>qDiv b c p2 e2 hb hc hc0 V hV) (fun V hV=>qDiv b d p3 e3 hb hd hd0 V hV) (fun V g hV=>ext4 p0 p1 p2 p3 f0 f1 f2 f3 V g hV))
theorem z6n (x:Rat)(hx:aP x)(w:World)(hl:La w) :
 CR 51 #[.string (Sq x)] w (.tuple #[Vq x x,.int .i64 0]) :=
 zO _ w hl (fun W hW=>jM x hx W hW)
theorem z7e (n:Int)(h0 : -9223372036854775808≤n)(h1:n≤9223372036854775807)(w:World)(hl:La w) :
 CR 116 #[.int .i64 n] w (.string (Sz n)):=by
 have h:=Tryz.strconv_Itoa n h0 h1 w hl.tb;rw[z1o]at h;exact h.mono (fun e w' ⟨e1,k,os,e2⟩=>⟨e1,e2▸Lib.below_grow w.heap.size w (Nat.le_refl _) k os⟩)
theorem z1D (p:Rat × Rat)(x:Rat):(fC p x).1≤p.1∧p.2≤(fC p x).2:=by
 unfold fC
 split
 · constructor<;>grind
 · split
   · constructor<;>grind
   · constructor<;>grind
theorem uB (p:Rat × Rat)(x:Rat)(h:p.1≤p.2):(fC p x).1≤x∧x≤(fC p x).2:=by
 unfold fC
 split
 · constructor<;>grind
 · split
   · constructor<;>grind
   · constructor<;>grind
theorem iU (q:Nat→Rat):∀ n,(exOf q n).1≤(exOf q n).2
 | 0=>Rat.le_refl
 | n+1=>by
   have h:=iU q n;have h2:=uB (exOf q n) (q (n+1)) h;show(fC (exOf q n) (q (n+1))).1≤(fC (exOf q n) (q (n+1))).2
   grind
theorem rJ (q:Nat→Rat):∀ n i,i≤n→(exOf q n).1≤q i∧q i≤(exOf q n).2
 | 0,i,h=>by
   obtain rfl:i=0:=by omega
   exact⟨Rat.le_refl,Rat.le_refl⟩
 | n+1,i,h=>by
   have h1:=z1D (exOf q n) (q (n+1));have h2:=uB (exOf q n) (q (n+1)) (iU q n);by_cases hi:i=n+1
   · subst hi;exact h2
   · have h3:=rJ q n i (by omega)
     exact⟨Rat.le_trans h1.1 h3.1,Rat.le_trans h3.2 h1.2⟩
theorem mZ (q:Nat→Rat):∀ n,(∃ i,i≤n∧(exOf q n).1=q i)∧(∃ i,i≤n∧(exOf q n).2=q i)
 | 0=>⟨⟨0,Nat.le_refl _,rfl⟩,⟨0,Nat.le_refl _,rfl⟩⟩
 | n+1=>by
   obtain⟨⟨i,hi,h1⟩,⟨j,hj,h2⟩⟩:=mZ q n;show(∃ i,i≤n+1∧(fC (exOf q n) (q (n+1))).1=q i)∧(∃ i,i≤n+1∧(fC (exOf q n) (q (n+1))).2=q i)
   unfold fC
   split
   · exact⟨⟨n+1,Nat.le_refl _,rfl⟩,⟨j,by omega,h2⟩⟩
   · split
     · exact⟨⟨i,by omega,h1⟩,⟨n+1,Nat.le_refl _,rfl⟩⟩
     · exact⟨⟨i,by omega,h1⟩,⟨j,by omega,h2⟩⟩
theorem z4X (p0 p1 p2 p3:Rat):((exOf (row4 p0 p1 p2 p3) 3).1≤p0∧(exOf (row4 p0 p1 p2 p3) 3).1≤p1∧(exOf (row4 p0 p1 p2 p3) 3).1≤p2∧(exOf (row4 p0 p1 p2 p3) 3).1≤p3)∧(p0≤(exOf (row4 p0 p1 p2 p3) 3).2∧p1≤(exOf (row4 p0 p1 p2 p3) 3).2∧p2≤(exOf (row4 p0 p1 p2 p3) 3).2∧p3≤(exOf (row4 p0 p1 p2 p3) 3).2):=by
 have h:=rJ (row4 p0 p1 p2 p3) 3;exact⟨⟨(h 0 (by decide)).1,(h 1 (by decide)).1,(h 2 (by decide)).1,(h 3 (by decide)).1⟩,⟨(h 0 (by decide)).2,(h 1 (by decide)).2,(h 2 (by decide)).2,(h 3 (by decide)).2⟩⟩
theorem yj (p0 p1 p2 p3:Rat):((exOf (row4 p0 p1 p2 p3) 3).1=p0∨(exOf (row4 p0 p1 p2 p3) 3).1=p1∨(exOf (row4 p0 p1 p2 p3) 3).1=p2∨(exOf (row4 p0 p1 p2 p3) 3).1=p3)∧((exOf (row4 p0 p1 p2 p3) 3).2=p0∨(exOf (row4 p0 p1 p2 p3) 3).2=p1∨(exOf (row4 p0 p1 p2 p3) 3).2=p2∨(exOf (row4 p0 p1 p2 p3) 3).2=p3):=by
 obtain⟨⟨i,hi,e⟩,⟨j,hj,f⟩⟩:=mZ (row4 p0 p1 p2 p3) 3;rw[e,f];constructor
 · match i,hi with
   | 0,_=>exact Or.inl rfl
   | 1,_=>exact Or.inr (Or.inl rfl)
   | 2,_=>exact Or.inr (Or.inr (Or.inl rfl))
   | 3,_=>exact Or.inr (Or.inr (Or.inr rfl))
 · match j,hj with
   | 0,_=>exact Or.inl rfl
   | 1,_=>exact Or.inr (Or.inl rfl)
   | 2,_=>exact Or.inr (Or.inr (Or.inl rfl))
   | 3,_=>exact Or.inr (Or.inr (Or.inr rfl))
def Iv (g:Nat) (x y:ByteArray) (W:World):Prop:=g<W.heap.size∧W.cell? ⟨g,0,none⟩=some (.string x)∧W.cell? ⟨g,1,none⟩=some (.string y)
theorem Iv.mono {g:Nat}{x y:ByteArray}{W W':World}(h:Iv g x y W)(hb:Below W.heap.size W W'):Iv g x y W' :=
 ⟨Nat.lt_of_lt_of_le h.1 hb.size,(hb.cell (p:=⟨g,0,none⟩) h.1).trans h.2.1,(hb.cell (p:=⟨g,1,none⟩) h.1).trans h.2.2⟩
theorem wU (W:World)(o:Obj):Below W.heap.size W (W.alloc o):=(Below.refl W.heap.size W).alloc (Nat.le_refl _) o
theorem z4E (W:World)(x y:ByteArray):Iv W.heap.size x y (W.alloc (.cells #[.string x,.string y] 27)) :=
 ⟨by simp,(aN rfl).trans rfl,(aN rfl).trans rfl⟩theorem iv_boxg {W:World} {g:Nat} (hg:g=W.heap.size) (x y:ByteArray):Iv g x y (W.alloc (.cells #[.string x,.string y] 27)):=by subst hg;exact z4E W x y
end Go.Proofs.YtkiklcbhglpooaaGreatDoor
set_option maxRecDepth 100000
set_option maxHeartbeats 20000000
open Go.Lib (hid)
namespace Go.Proofs.YtkiklcbhglpooaaGreatDoor
open Go.RowKit Go.Gb
def hcells (q:Nat→Rat) (m:Nat):List Value:=(List.range m).map fun j => .string (Sq (q j))
theorem zP (q:Nat→Rat)(i:Nat):hcells q (2*i)++[.string (Sq (q (2*i))),.string (Sq (q (2*i+1)))]=hcells q (2*i+2):=by
 unfold hcells
 rw[List.range_succ,List.range_succ];simp
theorem zQ (q:Nat→Rat){m i:Nat}(h:i<m):(hcells q m)[i]? = some (.string (Sq (q i))):=by
 unfold hcells
 simp[h]
theorem z3d {W:World}{base n:Nat}{e:TypeId}{v:Value}{xs:List Value}(h:W.ownsRow base e 1 v n xs)(hn:0<n) :
 ∃ g cap,v=.slice (some ⟨g,0,none⟩) n cap∧base≤g∧g<W.heap.size∧n≤cap∧∀ i x,xs[i]? = some x→W.cell? ⟨g,i,none⟩=some x:=by
 obtain⟨h1,h2⟩:=h;rcases h2 with⟨h2,h3⟩|⟨g,cap,cur,hv,hg,hh,hn2,hc,hs,ht⟩
 · omega
 · refine⟨g,cap,hv,hg,(Array.getElem?_eq_some_iff.1 hh).1,hn2,fun i x hx=>?_⟩
   have hi:i<n:=by
    have:=(List.getElem?_eq_some_iff.1 hx).1;omega
   rw[← ht,Nat.mul_one,List.getElem?_take,if_pos hi]at hx;simp only[World.cell?,hh];simpa using hx
theorem own_below {W W':World}{base n:Nat}{e:TypeId}{v:Value}{xs:List Value}(h:W.ownsRow base e 1 v n xs)(hb:Below W.heap.size W W'):W'.ownsRow base e 1 v n xs:=by
 obtain⟨h1,h2⟩:=h;refine⟨h1,?_⟩;rcases h2 with h2|⟨g,cap,cur,hv,hg,hh,r⟩
 · exact Or.inl h2
 · exact Or.inr ⟨g,cap,cur,hv,hg,by rw[hb.block g (Array.getElem?_eq_some_iff.1 hh).1];exact hh,r⟩
theorem zn (w:World)(u v:Value)(T:TypeId):∀ j x,[u,v][j]? = some x→(w.alloc (.cells #[u,v] T)).cell? ((⟨w.heap.size,0,none⟩:Addr).add j)=some x:=by
 intro j x hj
 match j,hj with
 | 0,hj=>simp at hj;subst hj;simp[Addr.add]
 | 1,hj=>simp at hj;subst hj;simp[Addr.add]
theorem z2T:∃ i0:TypeInfo,Tryz.prog.info? 25=some i0∧i0.zero=some (.string ⟨#[]⟩)∧i0.size=1∧i0.bytes=16:=by
 have h1:(Tryz.prog.info? 25).map (fun i=>i.zero)=some (some (.string ⟨#[]⟩)):=by kernel_rfl
 have h2:(Tryz.prog.info? 25).map (fun i=>i.size)=some 1:=by kernel_rfl
 have h3:(Tryz.prog.info? 25).map (fun i=>i.bytes)=some 16:=by kernel_rfl
 cases h:Tryz.prog.info? 25 with
 | none=>rw[h]at h1;cases h1
 | some i =>
   rw[h]at h1 h2 h3;exact⟨i,rfl,by simpa using h1,by simpa using h2,by simpa using h3⟩
theorem z3n (g n c:Nat)(q:Nat→Rat)(hn1:1≤n)(hn2:n≤1024)(hnc:n≤c)(w:World)(hl:La w)(hg:g<w.heap.size)
 (hq:∀ i,i<2*n→aP (q i)) (hv:∀ i,i<n→q (2*i)≤q (2*i+1)) (hcell:∀ i,i<2*n→w.cell? ⟨g,i,none⟩=some (.string (Sq (q i)))) :
 CR 141 #[.slice (some ⟨g,0,none⟩) n c] w (.tuple #[Vq (exOf q (2*n-1)).1 (exOf q (2*n-1)).2,.int .i64 0]):=by
 obtain⟨i0,hi,hz0,hz1,hz2⟩:=z2T;obtain⟨w0,hw0⟩:∃ w0:World,w0=w.alloc (.cells #[.string ⟨#[]⟩,.string ⟨#[]⟩] 27):=⟨_,rfl⟩;have hs0:w0.heap.size=w.heap.size+1:=by rw[hw0];simp
 have hb0:Below w.heap.size w w0:=by rw[hw0];exact wU w _
 have hr0:w0.cell? ⟨w.heap.size,0,none⟩=some (.string ⟨#[]⟩)∧w0.cell? ⟨w.heap.size,1,none⟩=some (.string ⟨#[]⟩)∧w0.frozen? ⟨w.heap.size,0,none⟩=false∧w0.frozen? ⟨w.heap.size,1,none⟩=false:=by
  rw[hw0];exact⟨(aN rfl).trans rfl,(aN rfl).trans rfl,bG rfl,bG rfl⟩
 have HQ:=hid hq;have HV:=hid hv;have KB:=hid (show ∀ W:World,Below w0.heap.size w0 W→Below w.heap.size w W from fun W hB=>hb0.trans (hB.mono (by omega)));have HC:=hid (show ∀ W:World,Below w0.heap.size w0 W→∀ i,i<2*n→W.cell? ⟨g,i,none⟩=some (.string (Sq (q i))) from fun W hB i hi'=>((KB.o W hB).cell (p:=⟨g,i,none⟩) hg).trans (hcell i hi'))
 have KR:=hid (show ∀ W:World,Below w0.heap.size w0 W→(W.cell? ⟨w.heap.size,0,none⟩=some (.string ⟨#[]⟩)∧W.cell? ⟨w.heap.size,1,none⟩=some (.string ⟨#[]⟩)∧W.frozen? ⟨w.heap.size,0,none⟩=false∧W.frozen? ⟨w.heap.size,1,none⟩=false) from fun W hB=>by
  obtain⟨c0,c1,f0,f1⟩:=hr0
  exact⟨(hB.cell (p:=⟨w.heap.size,0,none⟩) (by show w.heap.size<_;omega)).trans c0,(hB.cell (p:=⟨w.heap.size,1,none⟩) (by show w.heap.size<_;omega)).trans c1,(hB.frozen (p:=⟨w.heap.size,0,none⟩) (by show w.heap.size<_;omega)).trans f0,(hB.frozen (p:=⟨w.heap.size,1,none⟩) (by show w.heap.size<_;omega)).trans f1⟩)
 have HL:=hid (show ∀ W:World,Below w0.heap.size w0 W→La W from fun W hB=>hl.on (KB.o W hB));have KZ:=hid (show ∀ W:World,Below w0.heap.size w0 W→w.heap.size+1≤W.heap.size from fun W hB=>by have:=hB.size;omega);obtain ⟨F0,HS,HW0⟩:=au (Below.refl w0.heap.size w0) hs0 hw0;have ne0:¬ (n:Int)=0:=by omega
 have ne1:¬ (1024:Int)<(n:Int):=by omega
 have nc:(n:Int)≤(c:Int):=by omega
 clear hq hv hcell hb0 hr0 hl hs0 hw0;go_enter Tryz.func141,Tryz.ntmps141
 go_wp2;rw[← HW0.o];go_loopw [4,6,17] (fun v _ ii wr=>∃ (i:Nat),i≤n∧ii=.int .i64 (i:Int)∧Hid (wr.ownsRow w0.heap.size 25 1 v (2*i) (hcells q (2*i)))∧Hid (Below w0.heap.size w0 wr)) (fun _ _ ii _=>n-(intOf ii).toNat)
 case atStart=>exact⟨0,by omega,rfl,hid (World.ownsRow_nil w0 w0.heap.size 25 1),F0⟩
 case round =>
  obtain⟨i,hin,rfl,hO,hF⟩:=hrel;have hi2:(i:Int)≤1024:=by omega
  have hi3:(0:Int)≤(i:Int):=by omega
  have wi:IntKind.i64.wrap ((i:Int)+1)=(i:Int)+1:=IntWalk.i64_in _ (by omega);by_cases hlt:i<n
  · have c0:wr.cell? ⟨g,i*2,none⟩=some (.string (Sq (q (2*i)))):=by rw[Nat.mul_comm];exact HC.o _ hF.o (2*i) (by omega)
    have c1:wr.cell? ⟨g,i*2+1,none⟩=some (.string (Sq (q (2*i+1)))):=by rw[Nat.mul_comm];exact HC.o _ hF.o (2*i+1) (by omega)
    have FX:=hid (HQ.o (2*i) (by omega));have FY:=hid (HQ.o (2*i+1) (by omega));obtain ⟨HXY,HNX⟩:=aD (HV.o i hlt) (zP q i);generalize q (2*i)=x at *;generalize q (2*i+1)=y at *;have hlt1:(i:Int)<(n:Int):=by omega
    have CV:=hid (fun W hW=>show CR 39 #[.agg #[.string (Sq x),.string (Sq y)]] W (.bool true) from eF x y HXY.o FX.o FY.o W hW);go_wp2_with fail
    obtain ⟨F1,O1⟩:=aD (hF.o.alloc hF.o.size (.cells #[.string (Sq x),.string (Sq y)] 27)) (hO.o.alloc (.cells #[.string (Sq x),.string (Sq y)] 27));refine(CV.o _ (HL.o _ F1.o)).mono ?_;rintro e w1 ⟨rfl,hb⟩;obtain ⟨V2,F2,O2⟩:=au ((z4E wr (Sq x) (Sq y)).mono hb) (av F1.o hb) (own_below O1.o hb);clear hb c0 c1 F1 O1 CV;obtain⟨_,c0,c1⟩:=V2.o;go_wp2_with (at_builtin;refine wpList_append_own _ rfl _ _ 22 rfl w0.heap.size 25 i0 (.string ⟨#[]⟩) 1 16 Tryz.underlying22 hi hz0 hz1 hz2 rfl (by decide) _ (2*i) (hcells q (2*i)) rfl (O2.o.alloc _) ⟨w1.heap.size,0,none⟩ 2 2 [.string (Sq x),.string (Sq y)] rfl rfl (zn _ _ _ _) (by intro u hu;simp at hu;rcases hu with rfl|rfl<;>rfl) (by unfold maxLen;omega) (by omega) (by have:=F2.o.size;simp;omega) ?_)
    intro v' w2 hown hgrow _;rw[HNX.o]at hown;have F3:=hid ((F2.o.alloc F2.o.size _).grown hgrow (by have:=F2.o.size;simp;omega) (fun k hk=>(O2.o.lt k hk).1));have O3:=hid hown;clear hown hgrow;go_wp2;go_roundw
    case rel=>exact⟨i+1,by omega,by go_num,O3,F3⟩
    case measure=>simp[intOf];omega
  · have hge:decide ((i:Int)<(n:Int))=false:=by rw[decide_eq_false_iff_not];omega
    obtain rfl:i=n:=by omega
    obtain⟨g1,cap,rfl,hg1,hg2,hcap,hcs⟩:=z3d hO.o (by omega);have CE:=hid (mK g1 (2*i) cap q (by omega) (by omega) hcap wr (HL.o _ hF.o) hg2 HQ.o (fun j hj=>hcs j _ (zQ q hj)));clear hO hcs;go_wp2_with fail
    refine CE.o.mono ?_;rintro e w1 ⟨rfl,hb⟩;have F1:=hid (av hF.o hb);clear hb;obtain⟨m0,m1,n0,n1⟩:=KR.o _ F1.o;go_wp2;refine bodyPost_ret (v:=.tuple #[.agg #[.string (Sq (exOf q (2*i-1)).1),.string (Sq (exOf q (2*i-1)).2)],.int .i64 0]) (by simp[results,Tryz.results141,go_sem,m0,m1]) rfl ⟨rfl,?_⟩;exact((KB.o _ F1.o).setCell (p:=⟨w.heap.size,0,none⟩) (Nat.le_refl _) _).setCell (p:=⟨w.heap.size,1,none⟩) (Nat.le_refl _) _
theorem zk (x y:Rat)(h:x≤y)(hx:aP x)(hy:aP y)(w:World)(hl:La w) :
 CR 39 #[.agg #[.string (Sq x),.string (Sq y)]] w (.bool true):=eF x y h hx hy w hl
theorem xHas (x y z:Rat)(r:Bool)(hr:decide (x≤z∧z≤y)=r)(h:x≤y)(hx:aP x)(hy:aP y)(hz:aP z)(w:World)(hl:La w) :
 CR 38 #[.agg #[.string (Sq x),.string (Sq y)],.string (Sq z)] w (.bool r):=iHas x y z r hr h hx hy hz w hl
theorem xSub (a b c d s t:Rat)(hs:a-d=s)(ht:b-c=t)(h1:a≤b)(h2:c≤d)(ha:aP a)(hb:aP b)(hc:aP c)(hd:aP d)(w:World)(hl:La w) :
 CR 143 #[.agg #[.string (Sq a),.string (Sq b)],.agg #[.string (Sq c),.string (Sq d)]] w (.tuple #[.agg #[.string (Sq s),.string (Sq t)],.int .i64 0]):=iSub a b c d s t hs ht h1 h2 ha hb hc hd w hl
theorem xMul (a b c d p0 p1 p2 p3:Rat)(e0:a*c=p0)(e1:a*d=p1)(e2:b*c=p2)(e3:b*d=p3)(h1:a≤b)(h2:c≤d)(ha:aP a)(hb:aP b)(hc:aP c)(hd:aP d)(f0:aP p0)(f1:aP p1)(f2:aP p2)(f3:aP p3)(w:World)(hl:La w) :
 CR 144 #[.agg #[.string (Sq a),.string (Sq b)],.agg #[.string (Sq c),.string (Sq d)]] w (.tuple #[.agg #[.string (Sq (exOf (row4 p0 p1 p2 p3) 3).1),.string (Sq (exOf (row4 p0 p1 p2 p3) 3).2)],.int .i64 0]):=iMul a b c d p0 p1 p2 p3 e0 e1 e2 e3 h1 h2 ha hb hc hd f0 f1 f2 f3 w hl
theorem xDiv (a b c d p0 p1 p2 p3:Rat)(e0:a / c=p0)(e1:a / d=p1)(e2:b / c=p2)(e3:b / d=p3)(h1:a≤b)(h2:c≤d)(hz:decide (c≤0∧0≤d)=false)(ha:aP a)(hb:aP b)(hc:aP c)(hd:aP d)(f0:aP p0)(f1:aP p1)(f2:aP p2)(f3:aP p3)(w:World)(hl:La w) :
 CR 108 #[.agg #[.string (Sq a),.string (Sq b)],.agg #[.string (Sq c),.string (Sq d)]] w (.tuple #[.agg #[.string (Sq (exOf (row4 p0 p1 p2 p3) 3).1),.string (Sq (exOf (row4 p0 p1 p2 p3) 3).2)],.int .i64 0]):=iDiv a b c d p0 p1 p2 p3 e0 e1 e2 e3 h1 h2 hz ha hb hc hd f0 f1 f2 f3 w hl
theorem z5X (x:Rat)(hx:aP x)(w:World)(hl:La w) :
 CR 51 #[.string (Sq x)] w (.tuple #[.agg #[.string (Sq x),.string (Sq x)],.int .i64 0]):=z6n x hx w hl
theorem jh {x y z:Rat}(h:x+y=z)(hx:aP x)(hy:aP y)(w:World)(hla:La w):CV w 92 #[.string (Sq x),.string (Sq y)] (.string (Sq z)) :=
 z2a _ _ _ 0 w (fun W hW=>qAdd x y z h hx hy W (hla.on hW))
theorem jl {x y z:Rat}(h:x-y=z)(hx:aP x)(hy:aP y)(w:World)(hla:La w):CV w 91 #[.string (Sq x),.string (Sq y)] (.string (Sq z)) :=
 z03 _ _ _ 0 w (fun W hW=>qSub x y z h hx hy W (hla.on hW))
theorem gF {x y z:Rat}(h:x*y=z)(hx:aP x)(hy:aP y)(w:World)(hla:La w):CV w 89 #[.string (Sq x),.string (Sq y)] (.string (Sq z)) :=
 zZ _ _ _ 0 w (fun W hW=>qMul x y z h hx hy W (hla.on hW))
theorem oz {x y z:Rat}(h:x / y=z)(hx:aP x)(hy:aP y)(h0:y≠0)(w:World)(hla:La w):CV w 90 #[.string (Sq x),.string (Sq y)] (.string (Sq z)) :=
 z2d _ _ _ 0 w (fun W hW=>qDiv x y z h hx hy h0 W (hla.on hW))
theorem ji {x y:Rat}{c:Int}(h:cmpQ x y=c)(hx:aP x)(hy:aP y)(w:World)(hla:La w):CV w 103 #[.string (Sq x),.string (Sq y)] (.int .i64 c) :=
 z02 _ _ _ 0 w (fun W hW=>rq x y c h hx hy W (hla.on hW))
theorem su1:SmQ 1 (1:Rat):=⟨by unfold Sm;decide,by unfold Sm;decide⟩
theorem su0:SmQ 1 (0:Rat):=⟨by unfold Sm;decide,by unfold Sm;decide⟩
theorem su2:SmQ 1 (2:Rat):=⟨by unfold Sm;decide,by unfold Sm;decide⟩
theorem sun:SmQ 1 (-1:Rat):=⟨by unfold Sm;decide,by unfold Sm;decide⟩
theorem uq1:Sq (1:Rat)=⟨#[49]⟩:=by decide +kernel
theorem uq0:Sq (0:Rat)=⟨#[48]⟩:=by decide +kernel
theorem uq2:Sq (2:Rat)=⟨#[50]⟩:=by decide +kernel
theorem uqn:Sq (-1:Rat)=⟨#[45,49]⟩:=by decide +kernel
theorem avcv {x:Rat}(hx:aP x)(w:World)(hla:La w):CV w 24 #[.string (Sq x)] (.bool true):=fun W hW=>jM x hx W (hla.on hW)
theorem avno {a:ByteArray}(h:vldQ a.data.toList=false)(ha:a.size≤900)(w:World)(hla:La w):CV w 24 #[.string a] (.bool false):=fun W hW=>z0U a h ha W (hla.on hW)
theorem iB {t:Rat}{r:Bool}(hr:decide (-1≤t∧t≤1)=r)(ht:aP t)(w:World)(hla:La w):CV w 40 #[.string (Sq t)] (.bool r):=by
 have h:CV w 38 #[.agg #[.string (Sq (-1:Rat)),.string (Sq (1:Rat))],.string (Sq t)] (.bool r):=fun W hW=>xHas (-1) 1 t r hr (by decide +kernel) (sun.fit (by decide)) (su1.fit (by decide)) ht W (hla.on hW);rw[uqn,uq1]at h;exact zY _ _ w h
theorem z1T {a:ByteArray}(h:vldQ a.data.toList=false)(ha:a.size≤900)(w:World)(hla:La w):Ck1 w a 1:=fun g W hW k=>(z3Y g a W ((avno h ha w hla).mono hW) k).at
theorem z1S {t:Rat}(h:¬ (-1≤t∧t≤1))(ht:aP t)(w:World)(hla:La w):Ck1 w (Sq t) 2:=fun g W hW k=>(z3X g _ W ((avcv ht w hla).mono hW) ((iB (decide_eq_false h) ht w hla).mono hW) k).at
theorem iA {t:Rat}(h : -1≤t∧t≤1)(ht:aP t)(w:World)(hla:La w):Ck1 w (Sq t) 0:=fun g W hW k=>(z5F g _ W ((avcv ht w hla).mono hW) ((iB (decide_eq_true h) ht w hla).mono hW) k).at
theorem yY {s t:Rat}(h1 : -1≤s∧s≤1)(h : -1≤t∧t≤1)(hs:aP s)(ht:aP t)(w:World)(hla:La w):Ck2 w (Sq s) (Sq t) 0:=fun g W hW k=>(z5E g _ _ W ((avcv hs w hla).mono hW) ((avcv ht w hla).mono hW) ((iB (decide_eq_true h1) hs w hla).mono hW) ((iB (decide_eq_true h) ht w hla).mono hW) k).at
theorem z6G {t:Rat}{k:Nat}(ht:SmQ k t)(hk:k≤200)(h : -1≤t∧t≤1)(w:World)(hla:La w):CV w 34 #[.string (Sq t)] (.tuple #[.string (Sq (cosQ t)),.int .i64 0]):=by
 have q:=ht.mul ht;have a:=su1.sub q;have b:=su1.add q;have h2:=jl (x:=1) (y:=t*t) rfl (su1.fit (by decide)) (q.fit (by omega)) w hla;have h3:=jh (x:=1) (y:=t*t) rfl (su1.fit (by decide)) (q.fit (by omega)) w hla;rw[uq1]at h2 h3;exact z3W _ _ _ _ _ w (gF rfl (ht.fit (by omega)) (ht.fit (by omega)) w hla) h2 h3 (oz rfl (a.fit (by omega)) (b.fit (by omega)) (z4k t) w hla) (iA h (ht.fit (by omega)) w hla)
theorem z6E {t:Rat}{k:Nat}(ht:SmQ k t)(hk:k≤200)(h : -1≤t∧t≤1)(w:World)(hla:La w):CV w 35 #[.string (Sq t)] (.tuple #[.string (Sq (sinQ t)),.int .i64 0]):=by
 have q:=ht.mul ht;have a:=su2.mul ht;have b:=su1.add q;have h1:=gF (x:=2) (y:=t) rfl (su2.fit (by decide)) (ht.fit (by omega)) w hla;have h3:=jh (x:=1) (y:=t*t) rfl (su1.fit (by decide)) (q.fit (by omega)) w hla;rw[uq1]at h3;rw[uq2]at h1;exact z3T _ _ _ _ _ w h1 (gF rfl (ht.fit (by omega)) (ht.fit (by omega)) w hla) h3 (oz rfl (a.fit (by omega)) (b.fit (by omega)) (z4k t) w hla) (iA h (ht.fit (by omega)) w hla)
theorem z4r {s t:Rat}{k l:Nat}(hs:SmQ k s)(ht:SmQ l t)(h:1-s*t≠0):SmQ (k+l+1+(k+l+2)) (sumQ s t) :=
 (hs.add ht).div ((su1.sub (hs.mul ht)).mono (show 1+(k+l)+1≤k+l+2 by omega)) h
theorem z6D {s t:Rat}{k l:Nat}(hs:SmQ k s)(ht:SmQ l t)(hk:k+l≤400)(h1 : -1≤s∧s≤1)(h2 : -1≤t∧t≤1)(h0:1-s*t≠0)(h3 : -1≤sumQ s t∧sumQ s t≤1)(w:World)(hla:La w) :
 CV w 36 #[.string (Sq s),.string (Sq t)] (.tuple #[.string (Sq (sumQ s t)),.int .i64 0]):=by
 have p:=hs.mul ht;have m:=su1.sub p;have e3:=jl (x:=1) (y:=s*t) rfl (su1.fit (by decide)) (p.fit (by omega)) w hla;rw[uq1]at e3;exact z3R _ _ _ _ _ _ w (jh rfl (hs.fit (by omega)) (ht.fit (by omega)) w hla) (gF rfl (hs.fit (by omega)) (ht.fit (by omega)) w hla) e3 (fun W hW=>qDiv (s+t) (1-s*t) (sumQ s t) rfl ((hs.add ht).fit (by omega)) (m.fit (by omega)) h0 W (hla.on hW)) (iB (decide_eq_true h3) ((z4r hs ht h0).fit (by omega)) w hla) (yY h1 h2 (hs.fit (by omega)) (ht.fit (by omega)) w hla)
theorem z05 {s t:Rat}{k l:Nat}(hs:SmQ k s)(ht:SmQ l t)(hk:k+l≤400)(h1 : -1≤s∧s≤1)(h2 : -1≤t∧t≤1)(h3:¬ (1-s*t≠0∧(-1≤sumQ s t∧sumQ s t≤1)))(w:World)(hla:La w) :
 CV w 36 #[.string (Sq s),.string (Sq t)] (.tuple #[.string ⟨#[]⟩,.int .i64 15]):=by
 have p:=hs.mul ht;have m:=su1.sub p;have e3:=jl (x:=1) (y:=s*t) rfl (su1.fit (by decide)) (p.fit (by omega)) w hla;rw[uq1]at e3;have e1:=jh (x:=s) (y:=t) rfl (hs.fit (by omega)) (ht.fit (by omega)) w hla;have e2:=gF (x:=s) (y:=t) rfl (hs.fit (by omega)) (ht.fit (by omega)) w hla;have kc:=yY h1 h2 (hs.fit (by omega)) (ht.fit (by omega)) w hla;by_cases h0:1-s*t=0
 · rw[h0,uq0]at e3
   exact z1Y _ _ _ _ _ w e1 e2 e3 (fun W hW=>z0W (s+t) ((hs.add ht).fit (by omega)) W (hla.on hW)) kc
 · have h4:¬ (-1≤sumQ s t∧sumQ s t≤1):=fun h=>h3 ⟨h0,h⟩
   exact z00 _ _ _ _ _ _ w e1 e2 e3 (fun W hW=>qDiv (s+t) (1-s*t) (sumQ s t) rfl ((hs.add ht).fit (by omega)) (m.fit (by omega)) h0 W (hla.on hW)) (iB (decide_eq_false h4) ((z4r hs ht h0).fit (by omega)) w hla) kc
theorem unat (n:Nat):Sz (n:Int)=Sq ((n:Nat):Rat):=(xV (n:Int)).symm
theorem vJ {k n:Nat}(h:Sm k n)(hk:1≤k):SmQ k ((n:Nat):Rat) :=
 ⟨(show Sm k (((n:Nat):Rat)).num.natAbs from by simpa using h),(show Sm k (((n:Nat):Rat)).den from by
   have:(((n:Nat):Rat)).den=1:=rfl;rw[this]
   exact(show Sm 1 1 by unfold Sm;decide).mono hk)⟩
theorem uf (i:Nat):((2*i+1:Nat):Rat)≠0:=by
 intro h;have:=Rat.natCast_eq_zero_iff.1 h;omega
theorem xX {x:Rat}{k:Nat}(hx:SmQ k x):∀ i,SmQ (k+(k+k)*i) (powU x i)
 | 0=>hx
 | i+1=>by
   have h:=(xX hx i).mul (hx.mul hx).neg
   have e:powU x (i+1)=powU x i * -(x*x):=by
    show powU x i*(0-x*x)=_
    rw[show(0:Rat)-x*x = -(x*x) from by grind]
   rw[e];exact h.mono (by rw[Nat.mul_add];omega)
theorem z0F {x:Rat}{k c i:Nat}(hx:SmQ k x)(hi:i<c)(hc:c≤1000):SmQ (k+(k+k)*c+4) (iK x i):=by
 have h:=(xX hx i).mono (show k+(k+k)*i≤k+(k+k)*c from Nat.add_le_add_left (Nat.mul_le_mul_left _ (Nat.le_of_lt hi)) _);have ho:Sm 4 (2*i+1):=by unfold Sm;omega
 exact h.div (vJ ho (by decide)) (uf i)
def sumP (x:Rat) {c:Nat} (l:List {i:Nat // i<c}):Rat:=(l.map (·.1)).foldl (fun a i=>a+iK x i) 0
theorem z0t (x:Rat){c:Nat}(l:List {i:Nat // i<c})(y:{i:Nat // i<c}):sumP x (l++[y])=sumP x l+iK x y.1:=by simp[sumP]
theorem lQ (x:Rat):∀ n,(List.range n).foldl (fun a i=>a+iK x i) 0=serU x n
 | 0=>rfl
 | n+1=>by rw[List.range_succ,List.foldl_append,lQ x n];rfl
theorem z4V {x:Rat}{c K:Nat}(hK:∀ i,i<c→SmQ K (iK x i))(l:List {i:Nat // i<c}):SmQ (l.length*(K+1)+1) (sumP x l):=by
 have gen:∀ (l:List {i:Nat // i<c}) (a:Rat) (m:Nat),SmQ m a→SmQ (m+l.length*(K+1)) ((l.map (·.1)).foldl (fun a i=>a+iK x i) a):=by
  intro l
  induction l with
  | nil=>intro a m h;simpa using h
  | cons y l ih =>
    intro a m h;have:=ih (a+iK x y.1) (m+K+1) (h.add (hK y.1 y.2));refine SmQ.mono this ?_;rw[List.length_cons,Nat.add_mul];omega
 exact(gen l 0 1 su0).mono (by omega)
def serI (x:Rat) (n:Nat):Rat × Rat:=exOf (row4 (serU x n) (serU x n) (serU x (n+1)) (serU x (n+1))) 3
theorem xW {x:Rat}{K:Nat}(n:Nat)(hK:∀ i,i<n→SmQ K (iK x i)):SmQ (n*(K+1)+1) (serU x n):=by
 induction n with
 | zero=>exact su0.mono (by omega)
 | succ n ih =>
   have:=(ih (fun i hi=>hK i (by omega))).add (hK n (by omega));exact this.mono (by rw[Nat.add_mul];omega)
theorem mq {x:Rat}(hx:aP x)(w:World)(hla:La w):CV w 142 #[.string (Sq x)] (.agg #[.string (Sq x),.string (Sq x)]) :=
 uN _ _ _ 0 w (fun W hW=>z5X x hx W (hla.on hW))
theorem fZ {x:Rat}{k n:Nat}(hx:SmQ k x)(hn:n≤24)(hk:(n+1)*(k+(k+k)*(n+1)+4+1)+1≤900)(w:World)(hla:La w) :
 CV w 97 #[.string (Sq x),.int .i64 (n:Int)] (.agg #[.string (Sq (serI x n).1),.string (Sq (serI x n).2)]):=by
 obtain⟨K,eK⟩:∃ K,k+(k+k)*(n+1)+4=K:=⟨_,rfl⟩;have hK:∀ i,i<n+1→SmQ K (iK x i):=fun i hi=>eK▸z0F hx hi (by omega);rw[eK]at hk;have hk1:K+1≤(n+1)*(K+1):=Nat.le_mul_of_pos_left _ (by omega);have hkK:K≤900:=by omega
 have hk2:k≤K:=by omega
 have hkk:k+k≤K:=by rw[← eK,Nat.mul_add];omega
 have hx9:aP x:=hx.fit (by omega);have hq:=hx.mul hx;have h1:=gF (x:=x) (y:=x) rfl hx9 hx9 w hla;have h2:=jl (x:=0) (y:=x*x) rfl (su0.fit (by decide)) (hq.fit (by omega)) w hla;rw[uq0]at h2
 have hpw:∀ i,i<n+1→SmQ K (powU x i):=fun i hi=>(xX hx i).mono (by
  rw[← eK];have:=Nat.mul_le_mul_left (k+k) (Nat.le_of_lt hi)
  omega)
 have hlen:∀ m,m≤n+1→m*(K+1)+1≤900:=fun m hm=>by
  have:=Nat.mul_le_mul_right (K+1) hm;omega
 have hsb:=(xW n (fun i hi=>hK i (by omega))).fit (hlen n (by omega));have hss:=(xW (n+1) hK).fit (hlen (n+1) (by omega));refine zx (Sq x) _ _ (fun i=>Sq (powU x i)) (fun i=>Sq (iK x i)) (fun i=>Sq ((2*i+1:Nat):Rat)) (n+1) (n:Int) (fun l=>Sq (sumP x l)) (Sq (serU x n)) (Sq (serU x (n+1))) _ _ (by omega) (by omega) w h1 h2 rfl ?_ ?_ ?_ uq0 ?_ ?_ (mq hsb w hla) (mq hss w hla) ?_
 · intro i hi W hW
   have h:=z7e (2*(i:Int)+1) (by omega) (by omega) W (hla.on hW);rw[show 2*(i:Int)+1=((2*i+1:Nat):Int) by omega]at h ⊢;rwa [unat]at h
 · intro i hi
   have ho:Sm 4 (2*i+1):=by unfold Sm;omega
   exact oz rfl ((hpw i hi).fit hkK) ((vJ ho (by decide)).fit (by decide)) (uf i) w hla
 · intro i hi
   refine gF rfl ((hpw i hi).fit hkK) ?_ w hla;rw[show(0:Rat)-x*x = -(x*x) from by grind];exact hq.neg.fit (by omega)
 · intro pre y hp
   have hl:=hlen pre.length (by omega);exact jh (z0t x pre y).symm ((z4V hK pre).fit hl) ((hK y.1 y.2).fit hkK) w hla
 · intro ys hys
   constructor
   · have e:(ys.dropLast).map (·.1)=List.range n:=by
        rw[List.map_dropLast,hys,List.range_succ,List.dropLast_concat]
     show Sq (sumP x ys.dropLast)=_
     rw[sumP,e,lQ]
   · show Sq (sumP x ys)=_
     rw[sumP,hys,lQ]
 · intro g W hW k4
   have h:=z3n g 2 2 (row4 (serU x n) (serU x n) (serU x (n+1)) (serU x (n+1))) (by decide) (by decide) (by decide) W (hla.on hW) k4.lt
    (fun i hi=>match i,hi with
        | 0,_=>hsb
        | 1,_=>hsb
        | 2,_=>hss
        | 3,_=>hss)
    (fun i hi=>match i,hi with
        | 0,_=>Rat.le_refl
        | 1,_=>Rat.le_refl)
    (fun i hi=>match i,hi with
        | 0,_=>k4.cell (i:=0) rfl
        | 1,_=>k4.cell (i:=1) rfl
        | 2,_=>k4.cell (i:=2) rfl
        | 3,_=>k4.cell (i:=3) rfl)
   exact h
def mulI (x:Rat) (p:Rat × Rat):Rat × Rat:=exOf (row4 (x*p.1) (x*p.2) (x*p.1) (x*p.2)) 3
def subI (p q:Rat × Rat):Rat × Rat:=(p.1-q.2,p.2-q.1)
def piI (n:Nat):Rat × Rat:=subI (mulI 16 (serI (1 / 5) n)) (mulI 4 (serI (1 / 239) n))
def atI (n:Nat) (x:Rat):Rat × Rat:=if x≤1 / 2 then serI x n else subI (mulI (1 / 4) (piI n)) (serI ((1-x) / (1+x)) n)
def divI (p q:Rat × Rat):Rat × Rat:=exOf (row4 (p.1 / q.1) (p.1 / q.2) (p.2 / q.1) (p.2 / q.2)) 3
def degI (n:Nat) (x:Rat):Rat × Rat:=divI (mulI 360 (atI n x)) (piI n)
theorem jy (x:Rat)(n:Nat):(serI x n).1≤(serI x n).2:=iU _ 3
theorem gT (x:Rat)(p:Rat × Rat):(mulI x p).1≤(mulI x p).2:=iU _ 3
theorem z0w {p q:Rat × Rat}(hp:p.1≤p.2)(hq:q.1≤q.2):(subI p q).1≤(subI p q).2:=by
 unfold subI
 grind
theorem nM (n:Nat):(piI n).1≤(piI n).2:=z0w (gT _ _) (gT _ _)
theorem qo (n:Nat)(x:Rat):(atI n x).1≤(atI n x).2:=by
 unfold atI
 split
 · exact jy _ _
 · exact z0w (gT _ _) (jy _ _)
theorem tC {k:Nat}{a b c d:Rat}(ha:SmQ k a)(hb:SmQ k b)(hc:SmQ k c)(hd:SmQ k d):SmQ k (exOf (row4 a b c d) 3).1∧SmQ k (exOf (row4 a b c d) 3).2:=by
 have h:=yj a b c d;constructor
 · rcases h.1 with e|e|e|e<;>rw[e]<;>assumption
 · rcases h.2 with e|e|e|e<;>rw[e]<;>assumption
theorem kg {x:Rat}{k n:Nat}(hx:SmQ k x)(hn:n≤24):SmQ ((n+1)*(k+(k+k)*(n+1)+4+1)+1) (serI x n).1∧SmQ ((n+1)*(k+(k+k)*(n+1)+4+1)+1) (serI x n).2:=by
 have hK:∀ i,i<n+1→SmQ (k+(k+k)*(n+1)+4) (iK x i):=fun i hi=>z0F hx hi (by omega);have h1:=(xW n (fun i hi=>hK i (by omega))).mono (show n*(k+(k+k)*(n+1)+4+1)+1≤(n+1)*(k+(k+k)*(n+1)+4+1)+1 from Nat.add_le_add_right (Nat.mul_le_mul_right _ (by omega)) _);have h2:=xW (n+1) hK;exact tC h1 h1 h2 h2
theorem dJ {x:Rat}{p:Rat × Rat}{k l:Nat}(hx:SmQ k x)(h1:SmQ l p.1)(h2:SmQ l p.2):SmQ (k+l) (mulI x p).1∧SmQ (k+l) (mulI x p).2:=tC (hx.mul h1) (hx.mul h2) (hx.mul h1) (hx.mul h2)
theorem s5:SmQ 1 ((1:Rat) / 5):=⟨by unfold Sm;decide +kernel,by unfold Sm;decide +kernel⟩
theorem s239:SmQ 3 ((1:Rat) / 239):=⟨by unfold Sm;decide +kernel,by unfold Sm;decide +kernel⟩
theorem s16:SmQ 2 (16:Rat):=⟨by unfold Sm;decide,by unfold Sm;decide⟩
theorem s4:SmQ 2 (4:Rat):=⟨by unfold Sm;decide,by unfold Sm;decide⟩
theorem s14:SmQ 2 ((1:Rat) / 4):=⟨by unfold Sm;decide +kernel,by unfold Sm;decide +kernel⟩
theorem s12:SmQ 2 ((1:Rat) / 2):=⟨by unfold Sm;decide +kernel,by unfold Sm;decide +kernel⟩
theorem s360:SmQ 3 (360:Rat):=⟨by unfold Sm;decide,by unfold Sm;decide⟩
theorem t5:Sq ((1:Rat) / 5)=⟨#[49,47,53]⟩:=by decide +kernel
theorem t239:Sq ((1:Rat) / 239)=⟨#[49,47,50,51,57]⟩:=by decide +kernel
theorem t16:Sq (16:Rat)=⟨#[49,54]⟩:=by decide +kernel
theorem t4:Sq (4:Rat)=⟨#[52]⟩:=by decide +kernel
theorem t14:Sq ((1:Rat) / 4)=⟨#[49,47,52]⟩:=by decide +kernel
theorem t12:Sq ((1:Rat) / 2)=⟨#[49,47,50]⟩:=by decide +kernel
theorem tn12:Sq (-(1:Rat) / 2)=⟨#[45,49,47,50]⟩:=by decide +kernel
theorem t360:Sq (360:Rat)=⟨#[51,54,48]⟩:=by decide +kernel
theorem tu {n:Nat}(hn:n≤5):SmQ 400 (piI n).1∧SmQ 400 (piI n).2:=by
 have a:=kg (n:=n) s5 (by omega);have b:=kg (n:=n) s239 (by omega)
 have h1:(n+1)*(1+(1+1)*(n+1)+4+1)+1≤109:=by
  have:n+1≤6:=by omega
  have h2:1+(1+1)*(n+1)+4+1≤18:=by omega
  have:=Nat.mul_le_mul this h2;omega
 have h3:(n+1)*(3+(3+3)*(n+1)+4+1)+1≤265:=by
  have:n+1≤6:=by omega
  have h2:3+(3+3)*(n+1)+4+1≤44:=by omega
  have:=Nat.mul_le_mul this h2;omega
 have c:=dJ s16 (a.1.mono h1) (a.2.mono h1);have d:=dJ s4 (b.1.mono h3) (b.2.mono h3);exact⟨(c.1.sub d.2).mono (by decide),(c.2.sub d.1).mono (by decide)⟩
theorem gG {x:Rat}{p:Rat × Rat}{k l:Nat}(hx:SmQ k x)(h1:SmQ l p.1)(h2:SmQ l p.2)(hp:p.1≤p.2)(hk:k+l≤900)(w:World)(hla:La w) :
 CV w 99 #[.string (Sq x),.agg #[.string (Sq p.1),.string (Sq p.2)]] (.agg #[.string (Sq (mulI x p).1),.string (Sq (mulI x p).2)]) :=
 z01 _ _ _ _ _ _ _ 0 w (mq (hx.fit (by omega)) w hla) (fun W hW=>xMul x x p.1 p.2 _ _ _ _ rfl rfl rfl rfl Rat.le_refl hp (hx.fit (by omega)) (hx.fit (by omega)) (h1.fit (by omega)) (h2.fit (by omega)) ((hx.mul h1).fit hk) ((hx.mul h2).fit hk) ((hx.mul h1).fit hk) ((hx.mul h2).fit hk) W (hla.on hW))
theorem zh {p q:Rat × Rat}(h1:aP p.1)(h2:aP p.2)(h3:aP q.1)(h4:aP q.2)(hp:p.1≤p.2)(hq:q.1≤q.2)(w:World)(hla:La w) :
 CV w 98 #[.agg #[.string (Sq p.1),.string (Sq p.2)],.agg #[.string (Sq q.1),.string (Sq q.2)]] (.agg #[.string (Sq (subI p q).1),.string (Sq (subI p q).2)]) :=
 z3S _ _ _ _ _ _ 0 w (fun W hW=>xSub _ _ _ _ _ _ rfl rfl hp hq h1 h2 h3 h4 W (hla.on hW))
theorem lC {n:Nat}(hn1:1≤n)(hn:n≤5)(w:World)(hla:La w):CV w 42 #[.int .i64 (n:Int)] (.agg #[.int .i64 (n:Int),.string (Sq (piI n).1),.string (Sq (piI n).2)]):=by
 have _:=hn1;have a:=kg (n:=n) s5 (by omega);have b:=kg (n:=n) s239 (by omega)
 have h1:(n+1)*(1+(1+1)*(n+1)+4+1)+1≤109:=by
  have h3:n+1≤6:=by omega
  have h2:1+(1+1)*(n+1)+4+1≤18:=by omega
  have:=Nat.mul_le_mul h3 h2;omega
 have h3:(n+1)*(3+(3+3)*(n+1)+4+1)+1≤265:=by
  have h4:n+1≤6:=by omega
  have h2:3+(3+3)*(n+1)+4+1≤44:=by omega
  have:=Nat.mul_le_mul h4 h2;omega
 have e1:=fZ (n:=n) s5 (by omega) (by omega) w hla;have e2:=fZ (n:=n) s239 (by omega) (by omega) w hla;have c:=dJ s16 (a.1.mono h1) (a.2.mono h1);have d:=dJ s4 (b.1.mono h3) (b.2.mono h3);have e3:=gG s16 (a.1.mono h1) (a.2.mono h1) (jy _ _) (by decide) w hla;have e4:=gG s4 (b.1.mono h3) (b.2.mono h3) (jy _ _) (by decide) w hla;have e5:=zh (c.1.fit (by decide)) (c.2.fit (by decide)) (d.1.fit (by decide)) (d.2.fit (by decide)) (gT 16 (serI (1 / 5) n)) (gT 4 (serI (1 / 239) n)) w hla;rw[t5]at e1;rw[t239]at e2;rw[t16]at e3;rw[t4]at e4;exact oD _ _ _ _ _ _ _ _ _ _ _ w e1 e2 e3 e4 e5
theorem z6H {n:Nat}{x:Rat}{k l:Nat}(hn:n≤5)(hx:SmQ k x)(h1 : -1 / 2≤x)(h2:x≤1)(hr:SmQ l ((1-x) / (1+x)))(hk:(n+1)*(k+(k+k)*(n+1)+4+1)+1≤900)(hl:(n+1)*(l+(l+l)*(n+1)+4+1)+1≤490)(w:World)(hla:La w) :
 CV w 46 #[.agg #[.int .i64 (n:Int),.string (Sq (piI n).1),.string (Sq (piI n).2)],.string (Sq x)] (.agg #[.string (Sq (atI n x).1),.string (Sq (atI n x).2)]):=by
 have _:=h2
 have hkk:k≤300:=by
  have:k+(k+k)*(n+1)+4+1≤(n+1)*(k+(k+k)*(n+1)+4+1):=Nat.le_mul_of_pos_left _ (by omega);have:(k+k)*1≤(k+k)*(n+1):=Nat.mul_le_mul_left _ (by omega);omega
 have hll:l≤300:=by
  have:l+(l+l)*(n+1)+4+1≤(n+1)*(l+(l+l)*(n+1)+4+1):=Nat.le_mul_of_pos_left _ (by omega);have:(l+l)*1≤(l+l)*(n+1):=Nat.mul_le_mul_left _ (by omega);omega
 have hx9:aP x:=hx.fit (by omega);have sn12:SmQ 2 (-(1:Rat) / 2):=⟨by unfold Sm;decide +kernel,by unfold Sm;decide +kernel⟩;have o1:=ji (x:=x) (y := -(1:Rat) / 2) rfl hx9 (sn12.fit (by decide)) w hla;have o2:=ji (x:=x) (y:=(1:Rat) / 2) rfl hx9 (s12.fit (by decide)) w hla;rw[tn12]at o1;rw[t12]at o2
 have f1:decide (cmpQ x (-(1:Rat) / 2)<0)=false:=by
  rcases dA x (-(1:Rat) / 2) with⟨h,e⟩|⟨h,e⟩|⟨h,e⟩
  · grind
  · rw[e];rfl
  · rw[e];rfl
 by_cases hm:x≤1 / 2
 · have f2:decide (cmpQ x ((1:Rat) / 2)≤0)=true:=by
    rcases dA x ((1:Rat) / 2) with⟨h,e⟩|⟨h,e⟩|⟨h,e⟩
    · rw[e];rfl
    · rw[e];rfl
    · grind
   have e:atI n x=serI x n:=by unfold atI;rw[if_pos hm]
   rw[e];exact uY _ _ _ _ _ _ _ _ w o1 o2 (fZ hx (by omega) hk w hla) f1 f2
 · have e:atI n x=subI (mulI (1 / 4) (piI n)) (serI ((1-x) / (1+x)) n):=by unfold atI;rw[if_neg hm]
   rw[e];have hgt:(1:Rat) / 2<x:=by grind
   rw[mh hgt]at o2;have e3:=jl (x:=1) (y:=x) rfl (su1.fit (by decide)) hx9 w hla;have e4:=jh (x:=1) (y:=x) rfl (su1.fit (by decide)) hx9 w hla;have hne:1+x≠0:=by grind
   have e5:=oz (x:=1-x) (y:=1+x) rfl ((su1.sub hx).fit (by omega)) ((su1.add hx).fit (by omega)) hne w hla;have hp:=tu hn;have e6:=gG s14 hp.1 hp.2 (nM n) (by decide) w hla;have hq:=dJ s14 hp.1 hp.2;have hs:=kg (n:=n) hr (by omega);have e7:=fZ (n:=n) hr (by omega) (by omega) w hla;have e8:=zh (hq.1.fit (by decide)) (hq.2.fit (by decide)) (hs.1.fit (by omega)) (hs.2.fit (by omega)) (gT (1 / 4) (piI n)) (jy ((1-x) / (1+x)) n) w hla;rw[uq1]at e3 e4;rw[t14]at e6;exact qx _ _ _ _ _ _ _ _ _ _ _ _ _ _ w o1 o2 e3 e4 e5 e6 e7 e8 f1
theorem z6F {w₀:World}{n:Nat}{x:Rat}{m:Nat}(hn:n≤5)(hat:CV w₀ 46 #[.agg #[.int .i64 (n:Int),.string (Sq (piI n).1),.string (Sq (piI n).2)],.string (Sq x)] (.agg #[.string (Sq (atI n x).1),.string (Sq (atI n x).2)]))(h1:SmQ m (atI n x).1)(h2:SmQ m (atI n x).2)(hm:m≤497)(hpos:0<(piI n).1)(hla:La w₀) :
 CV w₀ 49 #[.agg #[.int .i64 (n:Int),.string (Sq (piI n).1),.string (Sq (piI n).2)],.string (Sq x)] (.agg #[.string (Sq (degI n x).1),.string (Sq (degI n x).2)]):=by
 have hp:=tu hn;have hle:=nM n;have hs:=dJ s360 h1 h2;have e2:=gG s360 h1 h2 (qo n x) (by omega) w₀ hla;rw[t360]at e2;have n1:(piI n).1≠0:=by grind
 have n2:(piI n).2≠0:=by grind
 have d1:=(hs.1.div hp.1 n1).fit (by omega);have d2:=(hs.1.div hp.2 n2).fit (by omega);have d3:=(hs.2.div hp.1 n1).fit (by omega);have d4:=(hs.2.div hp.2 n2).fit (by omega);exact zf _ _ _ _ _ _ _ _ _ _ 0 w₀ hat e2 (fun W hW=>xDiv _ _ _ _ _ _ _ _ rfl rfl rfl rfl (gT 360 (atI n x)) hle (decide_eq_false (by grind)) (hs.1.fit (by omega)) (hs.2.fit (by omega)) (hp.1.fit (by decide)) (hp.2.fit (by decide)) d1 d2 d3 d4 W (hla.on hW))
theorem sZ {q:Rat}{k:Nat}(h:SmQ k q)(h0:0<k)(hk:k≤10000):LQ q:=⟨Nat.le_trans (gP h.1 h0) hk,Nat.le_trans (gP h.2 h0) hk⟩
theorem z0L (a:ByteArray)(ha:a.size≤900):∃ q:Rat,∀ W,Calls Tryz.prog 28 #[.string a] W fun e w'=>∃ p c s d,e=.returned (.tuple #[.agg #[.bool (ah q.num),.slice p (aa q.num) c,.slice s (ag q.den) d],.bool (vldQ a.data.toList)])∧RN w' (.slice p (aa q.num) c) q.num.natAbs∧RN w' (.slice s (ag q.den) d) q.den∧Below W.heap.size W w':=by
 cases h:vldQ a.data.toList with
 | false=>exact⟨0,fun W=>z2O a h ha W⟩
 | true =>
   have e:=z6b h;obtain⟨q,hq⟩:∃ q,q=qval a.data.toList:=⟨_,rfl⟩;rw[← hq]at e;subst e;exact⟨q,fun W=>z6W q (z4p ha (by decide)) (by omega) W⟩
theorem ylq {q:Rat}{k:Nat}(h:SmQ k q)(hk:k+1≤10000):LQ q:=sZ (h.mono (Nat.le_succ k)) (Nat.succ_pos k) hk
theorem ys1:SmQ 1 (1:Rat):=⟨by unfold Sm;decide,by unfold Sm;decide⟩
theorem ysn:SmQ 1 (-1:Rat):=⟨by unfold Sm;decide,by unfold Sm;decide⟩
theorem yI1:KS 27 (.int .i64 1) 1:=ks (fun W=>z2N 1 1 1 rfl (by decide) rfl rfl W)
theorem yIn:KS 27 (.int .i64 (-1)) (-1):=by
 have g:∀ q:Rat,q.num = -1→q.den=1→KS 27 (.int .i64 (-1)) q:=fun q hn he=>ks (fun W=>by
  refine yC (-1) q.num q.den W (fun W=>?_) (fun W=>?_)
  · rw[hn];exact pR W
  · rw[he];exact kD 1 1 rfl (by decide) W)
 exact g (-1) rfl rfl
theorem z5U {x:Rat}{k:Nat}(hx:SmQ k x)(hk:k≤900):KSb 28 (.string (Sq x)) x true:=ksb (fun W=>z4y x (hx.mono hk) (by have:=z0x (hx.mono hk) (by decide);omega) W)
theorem z0k (a:ByteArray)(ha:a.size≤900):∃ x,KSb 28 (.string a) x (vldQ a.data.toList):=by
 obtain⟨x,hx⟩:=z0L a ha;exact⟨x,ksb hx⟩
theorem z6r {x y:Rat}(h:y≤x):decide (0≤cmpQ x y)=true:=by
 rcases dA x y with⟨h2,e⟩|⟨h2,e⟩|⟨h2,e⟩
 · grind
 · rw[e];rfl
 · rw[e];rfl
theorem z1l (x y:Rat):decide (cmpQ x y≤0)=decide (x≤y):=by
 rcases dA x y with⟨h2,e⟩|⟨h2,e⟩|⟨h2,e⟩<;>rw[e]
 · exact(decide_eq_true (by grind)).symm
 · exact(decide_eq_true (by grind)).symm
 · exact(decide_eq_false (by grind)).symm
theorem xM {x:Rat}{k:Nat}{b:Bool}(hb:decide (-1≤x∧x≤1)=b)(hx:SmQ k x)(hk:k+1≤10000):KBe 104 x b:=by
 intro q W h;have lx:=ylq hx hk;have ln:=ylq ysn (by decide);have l1:=ylq ys1 (by decide);by_cases h1 : -1≤x
 · refine vG x (-1) 1 (cmpQ x (-1)) (cmpQ x 1) b q W (z6r h1) ?_ yIn (kp2 (zB x (-1) _ rfl lx ln)) yI1 (kp2 (zB x 1 _ rfl lx l1)) h
   rw[z1l,← hb];exact decide_eq_decide.2 ⟨fun h2=>⟨h1,h2⟩,fun h2=>h2.2⟩
 · obtain rfl:b=false:=by rw[← hb];exact decide_eq_false (fun h2=>h1 h2.1)
   exact vH x (-1) q W yIn (kp2 (zB x (-1) _ (oo (by grind)) lx ln)) h
theorem sO {a:ByteArray}(hv:vldQ a.data.toList=false)(ha:a.size≤900):∃ x,KSi 47 (.string a) x 1:=by
 obtain⟨x,hx⟩:=z0k a ha;rw[hv]at hx;exact⟨x,fun W=>z2x a x W hx⟩
theorem sN {x:Rat}{k:Nat}(h:¬ (-1≤x∧x≤1))(hx:SmQ k x)(hk:k≤900):KSi 47 (.string (Sq x)) x 2:=fun W=>z0i _ x W (z5U hx hk) (xM (decide_eq_false h) hx (by omega))
theorem xL {x:Rat}{k:Nat}(h : -1≤x∧x≤1)(hx:SmQ k x)(hk:k≤900):KSi 47 (.string (Sq x)) x 0:=fun W=>z2w _ x W (z5U hx hk) (xM (decide_eq_true h) hx (by omega))
def lstQ (x y:Rat):Rat:=if cmpQ x y≤0 then x else y
def mstQ (x y:Rat):Rat:=if 0≤cmpQ x y then x else y
theorem nS (x y:Rat):lstQ x y≤x∧lstQ x y≤y:=by
 unfold lstQ
 rcases dA x y with⟨h,e⟩|⟨h,e⟩|⟨h,e⟩<;>rw[e]<;>simp<;>grind
theorem nR (x y:Rat):x≤mstQ x y∧y≤mstQ x y:=by
 unfold mstQ
 rcases dA x y with⟨h,e⟩|⟨h,e⟩|⟨h,e⟩<;>rw[e]<;>simp<;>grind
theorem jd (x y:Rat):lstQ x y=x∨lstQ x y=y:=by
 unfold lstQ
 split
 · exact Or.inl rfl
 · exact Or.inr rfl
theorem jb (x y:Rat):mstQ x y=x∨mstQ x y=y:=by
 unfold mstQ
 split
 · exact Or.inl rfl
 · exact Or.inr rfl
theorem z4t {k:Nat}{x y:Rat}(hx:SmQ k x)(hy:SmQ k y):SmQ k (lstQ x y):=by rcases jd x y with e|e<;>rw[e]<;>assumption
theorem z4s {k:Nat}{x y:Rat}(hx:SmQ k x)(hy:SmQ k y):SmQ k (mstQ x y):=by rcases jb x y with e|e<;>rw[e]<;>assumption
theorem z3A (q:Nat→Rat)(n:Nat){m:Rat}(h1:∀ i,i≤n→m≤q i)(h2:∃ i,i≤n∧m=q i):(exOf q n).1=m:=by
 obtain⟨i,hi,e⟩:=h2;obtain⟨j,hj,f⟩:=(mZ q n).1;have a:=(rJ q n i hi).1;have b:=h1 j hj;grind
theorem z5p (q:Nat→Rat)(n:Nat){m:Rat}(h1:∀ i,i≤n→q i≤m)(h2:∃ i,i≤n∧m=q i):(exOf q n).2=m:=by
 obtain⟨i,hi,e⟩:=h2;obtain⟨j,hj,f⟩:=(mZ q n).2;have a:=(rJ q n i hi).2;have b:=h1 j hj;grind
theorem z4C {p0 p1 p2 p3:Rat}{P:Rat→Prop}(h0:P p0)(h1:P p1)(h2:P p2)(h3:P p3)(i:Nat):P (row4 p0 p1 p2 p3 i):=by
 match i with
 | 0=>exact h0
 | 1=>exact h1
 | 2=>exact h2
 | _+3=>exact h3
theorem z4B {p0 p1 p2 p3 m:Rat}(h:m=p0∨m=p1∨m=p2∨m=p3):∃ i,i≤3∧m=row4 p0 p1 p2 p3 i:=by
 rcases h with h|h|h|h
 · exact⟨0,by decide,h⟩
 · exact⟨1,by decide,h⟩
 · exact⟨2,by decide,h⟩
 · exact⟨3,by decide,h⟩
theorem wG {p0 p1 p2 p3:Rat}:(exOf (row4 p0 p1 p2 p3) 3).1=lstQ (lstQ p0 p2) (lstQ p1 p3):=by
 have a:=nS (lstQ p0 p2) (lstQ p1 p3);have b:=nS p0 p2;have c:=nS p1 p3;refine z3A _ _ (fun i _=>z4C (P:=fun x=>lstQ (lstQ p0 p2) (lstQ p1 p3)≤x) ?_ ?_ ?_ ?_ i) (z4B ?_)
 · grind
 · grind
 · grind
 · grind
 · rcases jd (lstQ p0 p2) (lstQ p1 p3) with e|e<;>rw[e]
   · rcases jd p0 p2 with f|f<;>simp[f]
   · rcases jd p1 p3 with f|f<;>simp[f]
theorem wH {p0 p1 p2 p3:Rat}:(exOf (row4 p0 p1 p2 p3) 3).2=mstQ (mstQ p0 p2) (mstQ p1 p3):=by
 have a:=nR (mstQ p0 p2) (mstQ p1 p3);have b:=nR p0 p2;have c:=nR p1 p3;refine z5p _ _ (fun i _=>z4C (P:=fun x=>x≤mstQ (mstQ p0 p2) (mstQ p1 p3)) ?_ ?_ ?_ ?_ i) (z4B ?_)
 · grind
 · grind
 · grind
 · grind
 · rcases jb (mstQ p0 p2) (mstQ p1 p3) with e|e<;>rw[e]
   · rcases jb p0 p2 with f|f<;>simp[f]
   · rcases jb p1 p3 with f|f<;>simp[f]
theorem z1j (x y:Rat):lstQ x y=lstQ y x:=by
 have a:=nS x y;have b:=nS y x;rcases jd x y with e|e<;>rcases jd y x with f|f<;>grind
theorem z1e (x y:Rat):mstQ x y=mstQ y x:=by
 have a:=nR x y;have b:=nR y x;rcases jb x y with e|e<;>rcases jb y x with f|f<;>grind
