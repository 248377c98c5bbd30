/- texts -/
import Derived.Test.YtodcdibanokjjaaGreatDoorMz41q
import Derived.Test.YtodcdibanokjjaaGreatDoorAc
import Derived.Test.YtodcdibanokjjaaGreatDoorMz46q
namespace Go.Proofs.YtodcdibanokjjaaGreatDoor
open Go.RowKit Go.Gb
def Vq (x y:Rat):Value:=.agg #[.string (Sq x),.string (Sq y)]
theorem wO {x y:Rat}(h:x≤y):cmpQ x y≤0:=by
 rcases eZ x y with⟨h,e⟩|⟨h,e⟩|⟨h,e⟩<;>rw[e]<;>grind
theorem dQ (x y:Rat)(h:x≤y)(hx:aO x)(hy:aO y)(w:World)(hl:La w) :
 CR 19 #[Vq x y] w (.bool true) :=
 om _ _ _ (wO h) w hl (fun W hW=>qi x y _ rfl hx hy W hW)
theorem z0b (x y z:Rat)(r:Bool)(hr:decide (x≤z∧z≤y)=r)(hx:aO x)(hy:aO y)(hz:aO z)(w:World)(hl:La w) :
 CR 47 #[Vq x y,.string (Sq z)] w (.bool r):=by
 subst hr;by_cases h1:x≤z
 · by_cases h2:z≤y
   · rw[show decide (x≤z∧z≤y)=true by rw[decide_eq_true_iff];exact⟨h1,h2⟩]
     exact rT _ _ _ _ _ (wO h1) (wO h2) w hl (fun W hW=>kD x z _ rfl hx hz W hW) (fun W hW=>kD z y _ rfl hz hy W hW)
   · rw[show decide (x≤z∧z≤y)=false by rw[decide_eq_false_iff_not];exact fun h=>h2 h.2]
     exact rU _ _ _ _ (wO h1) w hl (fun W hW=>kD x z _ rfl hx hz W hW) (fun W hW=>kD z y 1 (nS (by grind)) hz hy W hW)
 · rw[show decide (x≤z∧z≤y)=false by rw[decide_eq_false_iff_not];exact fun h=>h1 h.1]
   exact rW _ _ _ w hl (fun W hW=>kD x z 1 (nS (by grind)) hx hz W hW)
theorem iHas (x y z:Rat)(r:Bool)(hr:decide (x≤z∧z≤y)=r)(h:x≤y)(hx:aO x)(hy:aO y)(hz:aO z)(w:World)(hl:La w) :
 CR 18 #[Vq x y,.string (Sq z)] w (.bool r) :=
 z2e _ _ _ r w hl (fun W hW=>dQ x y h hx hy W hW) (fun W hW=>jq z hz W hW) (fun W hW=>z0b x y z r hr hx hy hz W hW)
theorem iSub (a b c d s t:Rat)(hs:a-d=s)(ht:b-c=t)(h1:a≤b)(h2:c≤d)(ha:aO a)(hb:aO b)(hc:aO c)(hd:aO d)(w:World)(hl:La w) :
 CR 108 #[Vq a b,Vq c d] w (.tuple #[Vq s t,.int .i64 0]) :=
 z2c _ _ _ _ _ _ w hl (fun W hW=>dQ a b h1 ha hb W hW) (fun W hW=>dQ c d h2 hc hd W hW) (fun W hW=>qSub a d s hs ha hd W hW) (fun W hW=>qSub b c t ht hb hc W hW)
def row4 (p0 p1 p2 p3:Rat):Nat→Rat
 | 0=>p0
 | 1=>p1
 | 2=>p2
 | _=>p3
theorem ext4 (p0 p1 p2 p3:Rat)(f0:aO p0)(f1:aO p1)(f2:aO p2)(f3:aO p3)(W:World)(g:Nat)(hW:La W)(hg:g<W.heap.size)
 (c0:W.cell? ⟨g,0,none⟩=some (.string (Sq p0))) (c1:W.cell? ⟨g,1,none⟩=some (.string (Sq p1))) (c2:W.cell? ⟨g,2,none⟩=some (.string (Sq p2))) (c3:W.cell? ⟨g,3,none⟩=some (.string (Sq p3))) :
 CR 133 #[.slice (some ⟨g,0,none⟩) 4 4] W (.agg #[.string (Sq (exOf (row4 p0 p1 p2 p3) 3).1),.string (Sq (exOf (row4 p0 p1 p2 p3) 3).2)]) :=
 lZ g 4 4 (row4 p0 p1 p2 p3) (by decide) (by decide) (by decide) W hW hg
  (fun i hi=>match i,hi with
   | 0,_=>f0
   | 1,_=>f1
   | 2,_=>f2
   | 3,_=>f3)
  (fun i hi=>match i,hi with
   | 0,_=>c0
   | 1,_=>c1
   | 2,_=>c2
   | 3,_=>c3)
theorem iMul (a b c d p0 p1 p2 p3:Rat)(e0:a*c=p0)(e1:a*d=p1)(e2:b*c=p2)(e3:b*d=p3)(h1:a≤b)(h2:c≤d)(ha:aO a)(hb:aO b)(hc:aO c)(hd:aO d)(f0:aO p0)(f1:aO p1)(f2:aO p2)(f3:aO p3)(w:World)(hl:La w) :
 CR 104 #[Vq a b,Vq c d] w (.tuple #[Vq (exOf (row4 p0 p1 p2 p3) 3).1 (exOf (row4 p0 p1 p2 p3) 3).2,.int .i64 0]) :=
 z2d _ _ _ _ _ _ w hl (fun W hW=>dQ a b h1 ha hb W hW) (fun W hW=>dQ c d h2 hc hd W hW)
  (fun W hW=>oq _ _ _ _ _ _ _ _ _ _ W hW (fun V hV=>qMul a c p0 e0 ha hc V hV) (fun V hV=>qMul a d p1 e1 ha hd V hV) (fun V hV=>qMul b c p2 e2 hb hc V hV) (fun V hV=>qMul b d p3 e3 hb hd V hV) (fun V g hV=>ext4 p0 p1 p2 p3 f0 f1 f2 f3 V g hV))
theorem iDiv (a b c d p0 p1 p2 p3:Rat)(e0:a / c=p0)(e1:a / d=p1)(e2:b / c=p2)(e3:b / d=p3)(h1:a≤b)(h2:c≤d)(hz:decide (c≤0∧0≤d)=false)(ha:aO a)(hb:aO b)(hc:aO c)(hd:aO d)(f0:aO p0)(f1:aO p1)(f2:aO p2)(f3:aO p3)(w:World)(hl:La w) :
 CR 75 #[Vq a b,Vq c d] w (.tuple #[Vq (exOf (row4 p0 p1 p2 p3) 3).1 (exOf (row4 p0 p1 p2 p3) 3).2,.int .i64 0]):=by
 have hz2:=of_decide_eq_false hz;have hc0:c≠0:=by rintro rfl;exact hz2 ⟨by grind,h2⟩
 have hd0:d≠0:=by rintro rfl;exact hz2 ⟨h2,by grind⟩
 have h3:=fun W hW=>z0b c d 0 false hz hc hd (xV (by decide +kernel) (by decide +kernel)) W hW;rw[q_0]at h3
 exact z2f _ _ _ _ _ _ w hl (fun W hW=>dQ a b h1 ha hb W hW) (fun W hW=>dQ c d h2 hc hd W hW) h3
  (fun W hW=>ou _ _ _ _ _ _ _ _ _ _ W hW (fun V hV=>qDiv a c p0 e0 ha hc hc0 V hV) (fun V hV=>qDiv a d p1 e1 ha hd hd0 V hV) (fun V hV=>qDiv b c p2 e2 hb hc hc0 V hV) (fun V hV=>qDiv b d p3 e3 hb hd hd0 V hV) (fun V g hV=>ext4 p0 p1 p2 p3 f0 f1 f2 f3 V g hV))
theorem z4Z (x:Rat)(hx:aO x)(w:World)(hl:La w) :
 CR 130 #[.string (Sq x)] w (.tuple #[Vq x x,.int .i64 0]) :=
 xP _ w hl (fun W hW=>jq x hx W hW)
theorem z5H (n:Int)(h0 : -9223372036854775808≤n)(h1:n≤9223372036854775807)(w:World)(hl:La w) :
 CR 132 #[.int .i64 n] w (.string (Sz n)):=by
 have h:=Tryz.strconv_Itoa n h0 h1 w hl.tb;rw[z09]at h;exact h.mono (fun e w' ⟨e1,k,os,e2⟩=>⟨e1,e2▸Lib.below_grow w.heap.size w (Nat.le_refl _) k os⟩)
theorem z0o (p:Rat × Rat)(x:Rat)(h:p.1≤p.2):(fF p x).1≤x∧x≤(fF p x).2:=by
 unfold fF
 split
 · constructor<;>grind
 · split
   · constructor<;>grind
   · constructor<;>grind
theorem jD (q:Nat→Rat):∀ n,(exOf q n).1≤(exOf q n).2
 | 0=>Rat.le_refl
 | n+1=>by
   have h:=jD q n;have h2:=z0o (exOf q n) (q (n+1)) h;show(fF (exOf q n) (q (n+1))).1≤(fF (exOf q n) (q (n+1))).2
   grind
theorem wH (q:Nat→Rat):∀ n,(∃ i,i≤n∧(exOf q n).1=q i)∧(∃ i,i≤n∧(exOf q n).2=q i)
 | 0=>⟨⟨0,Nat.le_refl _,rfl⟩,⟨0,Nat.le_refl _,rfl⟩⟩
 | n+1=>by
   obtain⟨⟨i,hi,h1⟩,⟨j,hj,h2⟩⟩:=wH q n;show(∃ i,i≤n+1∧(fF (exOf q n) (q (n+1))).1=q i)∧(∃ i,i≤n+1∧(fF (exOf q n) (q (n+1))).2=q i)
   unfold fF
   split
   · exact⟨⟨n+1,Nat.le_refl _,rfl⟩,⟨j,by omega,h2⟩⟩
   · split
     · exact⟨⟨i,by omega,h1⟩,⟨n+1,Nat.le_refl _,rfl⟩⟩
     · exact⟨⟨i,by omega,h1⟩,⟨j,by omega,h2⟩⟩
theorem z1H (p0 p1 p2 p3:Rat):((exOf (row4 p0 p1 p2 p3) 3).1=p0∨(exOf (row4 p0 p1 p2 p3) 3).1=p1∨(exOf (row4 p0 p1 p2 p3) 3).1=p2∨(exOf (row4 p0 p1 p2 p3) 3).1=p3)∧((exOf (row4 p0 p1 p2 p3) 3).2=p0∨(exOf (row4 p0 p1 p2 p3) 3).2=p1∨(exOf (row4 p0 p1 p2 p3) 3).2=p2∨(exOf (row4 p0 p1 p2 p3) 3).2=p3):=by
 obtain⟨⟨i,hi,e⟩,⟨j,hj,f⟩⟩:=wH (row4 p0 p1 p2 p3) 3;rw[e,f];constructor
 · match i,hi with
   | 0,_=>exact Or.inl rfl
   | 1,_=>exact Or.inr (Or.inl rfl)
   | 2,_=>exact Or.inr (Or.inr (Or.inl rfl))
   | 3,_=>exact Or.inr (Or.inr (Or.inr rfl))
 · match j,hj with
   | 0,_=>exact Or.inl rfl
   | 1,_=>exact Or.inr (Or.inl rfl)
   | 2,_=>exact Or.inr (Or.inr (Or.inl rfl))
   | 3,_=>exact Or.inr (Or.inr (Or.inr rfl))
def Iv (g:Nat) (x y:ByteArray) (W:World):Prop:=g<W.heap.size∧W.cell? ⟨g,0,none⟩=some (.string x)∧W.cell? ⟨g,1,none⟩=some (.string y)
theorem Iv.mono {g:Nat}{x y:ByteArray}{W W':World}(h:Iv g x y W)(hb:Below W.heap.size W W'):Iv g x y W' :=
 ⟨Nat.lt_of_lt_of_le h.1 hb.size,(hb.cell (p:=⟨g,0,none⟩) h.1).trans h.2.1,(hb.cell (p:=⟨g,1,none⟩) h.1).trans h.2.2⟩
theorem uL (W:World)(o:Obj):Below W.heap.size W (W.alloc o):=(Below.refl W.heap.size W).alloc (Nat.le_refl _) o
theorem z3r (W:World)(x y:ByteArray):Iv W.heap.size x y (W.alloc (.cells #[.string x,.string y] 32)) :=
 ⟨by simp,(aN rfl).trans rfl,(aN rfl).trans rfl⟩theorem iv_boxg {W:World} {g:Nat} (hg:g=W.heap.size) (x y:ByteArray):Iv g x y (W.alloc (.cells #[.string x,.string y] 32)):=by subst hg;exact z3r W x y
end Go.Proofs.YtodcdibanokjjaaGreatDoor
set_option maxRecDepth 100000
set_option maxHeartbeats 20000000
open Go.Lib (hid)
namespace Go.Proofs.YtodcdibanokjjaaGreatDoor
open Go.RowKit Go.Gb
def hcells (q:Nat→Rat) (m:Nat):List Value:=(List.range m).map fun j => .string (Sq (q j))
theorem xQ (q:Nat→Rat)(i:Nat):hcells q (2*i)++[.string (Sq (q (2*i))),.string (Sq (q (2*i+1)))]=hcells q (2*i+2):=by
 unfold hcells
 rw[List.range_succ,List.range_succ];simp
theorem xR (q:Nat→Rat){m i:Nat}(h:i<m):(hcells q m)[i]? = some (.string (Sq (q i))):=by
 unfold hcells
 simp[h]
theorem z1U {W:World}{base n:Nat}{e:TypeId}{v:Value}{xs:List Value}(h:W.ownsRow base e 1 v n xs)(hn:0<n) :
 ∃ g cap,v=.slice (some ⟨g,0,none⟩) n cap∧base≤g∧g<W.heap.size∧n≤cap∧∀ i x,xs[i]? = some x→W.cell? ⟨g,i,none⟩=some x:=by
 obtain⟨h1,h2⟩:=h;rcases h2 with⟨h2,h3⟩|⟨g,cap,cur,hv,hg,hh,hn2,hc,hs,ht⟩
 · omega
 · refine⟨g,cap,hv,hg,(Array.getElem?_eq_some_iff.1 hh).1,hn2,fun i x hx=>?_⟩
   have hi:i<n:=by
    have:=(List.getElem?_eq_some_iff.1 hx).1;omega
   rw[← ht,Nat.mul_one,List.getElem?_take,if_pos hi]at hx;simp only[World.cell?,hh];simpa using hx
theorem own_below {W W':World}{base n:Nat}{e:TypeId}{v:Value}{xs:List Value}(h:W.ownsRow base e 1 v n xs)(hb:Below W.heap.size W W'):W'.ownsRow base e 1 v n xs:=by
 obtain⟨h1,h2⟩:=h;refine⟨h1,?_⟩;rcases h2 with h2|⟨g,cap,cur,hv,hg,hh,r⟩
 · exact Or.inl h2
 · exact Or.inr ⟨g,cap,cur,hv,hg,by rw[hb.block g (Array.getElem?_eq_some_iff.1 hh).1];exact hh,r⟩
theorem xn (w:World)(u v:Value)(T:TypeId):∀ j x,[u,v][j]? = some x→(w.alloc (.cells #[u,v] T)).cell? ((⟨w.heap.size,0,none⟩:Addr).add j)=some x:=by
 intro j x hj
 match j,hj with
 | 0,hj=>simp at hj;subst hj;simp[Addr.add]
 | 1,hj=>simp at hj;subst hj;simp[Addr.add]
theorem z1K:∃ i0:TypeInfo,Tryz.prog.info? 22=some i0∧i0.zero=some (.string ⟨#[]⟩)∧i0.size=1∧i0.bytes=16:=by
 have h1:(Tryz.prog.info? 22).map (fun i=>i.zero)=some (some (.string ⟨#[]⟩)):=by kernel_rfl
 have h2:(Tryz.prog.info? 22).map (fun i=>i.size)=some 1:=by kernel_rfl
 have h3:(Tryz.prog.info? 22).map (fun i=>i.bytes)=some 16:=by kernel_rfl
 cases h:Tryz.prog.info? 22 with
 | none=>rw[h]at h1;cases h1
 | some i =>
   rw[h]at h1 h2 h3;exact⟨i,rfl,by simpa using h1,by simpa using h2,by simpa using h3⟩
theorem z2g (g n c:Nat)(q:Nat→Rat)(hn1:1≤n)(hn2:n≤1024)(hnc:n≤c)(w:World)(hl:La w)(hg:g<w.heap.size)
 (hq:∀ i,i<2*n→aO (q i)) (hv:∀ i,i<n→q (2*i)≤q (2*i+1)) (hcell:∀ i,i<2*n→w.cell? ⟨g,i,none⟩=some (.string (Sq (q i)))) :
 CR 107 #[.slice (some ⟨g,0,none⟩) n c] w (.tuple #[Vq (exOf q (2*n-1)).1 (exOf q (2*n-1)).2,.int .i64 0]):=by
 obtain⟨i0,hi,hz0,hz1,hz2⟩:=z1K;obtain⟨w0,hw0⟩:∃ w0:World,w0=w.alloc (.cells #[.string ⟨#[]⟩,.string ⟨#[]⟩] 32):=⟨_,rfl⟩;have hs0:w0.heap.size=w.heap.size+1:=by rw[hw0];simp
 have hb0:Below w.heap.size w w0:=by rw[hw0];exact uL w _
 have hr0:w0.cell? ⟨w.heap.size,0,none⟩=some (.string ⟨#[]⟩)∧w0.cell? ⟨w.heap.size,1,none⟩=some (.string ⟨#[]⟩)∧w0.frozen? ⟨w.heap.size,0,none⟩=false∧w0.frozen? ⟨w.heap.size,1,none⟩=false:=by
  rw[hw0];exact⟨(aN rfl).trans rfl,(aN rfl).trans rfl,bF rfl,bF rfl⟩
 have HQ:=hid hq;have HV:=hid hv;have KB:=hid (show ∀ W:World,Below w0.heap.size w0 W→Below w.heap.size w W from fun W hB=>hb0.trans (hB.mono (by omega)));have HC:=hid (show ∀ W:World,Below w0.heap.size w0 W→∀ i,i<2*n→W.cell? ⟨g,i,none⟩=some (.string (Sq (q i))) from fun W hB i hi'=>((KB.out W hB).cell (p:=⟨g,i,none⟩) hg).trans (hcell i hi'))
 have KR:=hid (show ∀ W:World,Below w0.heap.size w0 W→(W.cell? ⟨w.heap.size,0,none⟩=some (.string ⟨#[]⟩)∧W.cell? ⟨w.heap.size,1,none⟩=some (.string ⟨#[]⟩)∧W.frozen? ⟨w.heap.size,0,none⟩=false∧W.frozen? ⟨w.heap.size,1,none⟩=false) from fun W hB=>by
  obtain⟨c0,c1,f0,f1⟩:=hr0
  exact⟨(hB.cell (p:=⟨w.heap.size,0,none⟩) (by show w.heap.size<_;omega)).trans c0,(hB.cell (p:=⟨w.heap.size,1,none⟩) (by show w.heap.size<_;omega)).trans c1,(hB.frozen (p:=⟨w.heap.size,0,none⟩) (by show w.heap.size<_;omega)).trans f0,(hB.frozen (p:=⟨w.heap.size,1,none⟩) (by show w.heap.size<_;omega)).trans f1⟩)
 have HL:=hid (show ∀ W:World,Below w0.heap.size w0 W→La W from fun W hB=>hl.on (KB.out W hB));have KZ:=hid (show ∀ W:World,Below w0.heap.size w0 W→w.heap.size+1≤W.heap.size from fun W hB=>by have:=hB.size;omega);obtain ⟨F0,HS,HW0⟩:=ai (Below.refl w0.heap.size w0) hs0 hw0;have ne0:¬ (n:Int)=0:=by omega
 have ne1:¬ (1024:Int)<(n:Int):=by omega
 have nc:(n:Int)≤(c:Int):=by omega
 clear hq hv hcell hb0 hr0 hl hs0 hw0;go_enter Tryz.func107,Tryz.ntmps107
 go_wp2;rw[← HW0.out];go_loopw [4,6,17] (fun v _ ii wr=>∃ (i:Nat),i≤n∧ii=.int .i64 (i:Int)∧Hid (wr.ownsRow w0.heap.size 22 1 v (2*i) (hcells q (2*i)))∧Hid (Below w0.heap.size w0 wr)) (fun _ _ ii _=>n-(intOf ii).toNat)
 case atStart=>exact⟨0,by omega,rfl,hid (World.ownsRow_nil w0 w0.heap.size 22 1),F0⟩
 case round =>
  obtain⟨i,hin,rfl,hO,hF⟩:=hrel;have hi2:(i:Int)≤1024:=by omega
  have hi3:(0:Int)≤(i:Int):=by omega
  have wi:IntKind.i64.wrap ((i:Int)+1)=(i:Int)+1:=IntWalk.i64_in _ (by omega);by_cases hlt:i<n
  · have c0:wr.cell? ⟨g,i*2,none⟩=some (.string (Sq (q (2*i)))):=by rw[Nat.mul_comm];exact HC.out _ hF.out (2*i) (by omega)
    have c1:wr.cell? ⟨g,i*2+1,none⟩=some (.string (Sq (q (2*i+1)))):=by rw[Nat.mul_comm];exact HC.out _ hF.out (2*i+1) (by omega)
    have FX:=hid (HQ.out (2*i) (by omega));have FY:=hid (HQ.out (2*i+1) (by omega));obtain ⟨HXY,HNX⟩:=aF (HV.out i hlt) (xQ q i);generalize q (2*i)=x at *;generalize q (2*i+1)=y at *;have hlt1:(i:Int)<(n:Int):=by omega
    have CV:=hid (fun W hW=>show CR 19 #[.agg #[.string (Sq x),.string (Sq y)]] W (.bool true) from dQ x y HXY.out FX.out FY.out W hW);go_wp2_with fail
    obtain ⟨F1,O1⟩:=aF (hF.out.alloc hF.out.size (.cells #[.string (Sq x),.string (Sq y)] 32)) (hO.out.alloc (.cells #[.string (Sq x),.string (Sq y)] 32));refine(CV.out _ (HL.out _ F1.out)).mono ?_;rintro e w1 ⟨rfl,hb⟩;obtain ⟨V2,F2,O2⟩:=ai ((z3r wr (Sq x) (Sq y)).mono hb) (ak F1.out hb) (own_below O1.out hb);clear hb c0 c1 F1 O1 CV;obtain⟨_,c0,c1⟩:=V2.out;go_wp2_with (at_builtin;refine wpList_append_own _ rfl _ _ 39 rfl w0.heap.size 22 i0 (.string ⟨#[]⟩) 1 16 Tryz.underlying39 hi hz0 hz1 hz2 rfl (by decide) _ (2*i) (hcells q (2*i)) rfl (O2.out.alloc _) ⟨w1.heap.size,0,none⟩ 2 2 [.string (Sq x),.string (Sq y)] rfl rfl (xn _ _ _ _) (by intro u hu;simp at hu;rcases hu with rfl|rfl<;>rfl) (by unfold maxLen;omega) (by omega) (by have:=F2.out.size;simp;omega) ?_)
    intro v' w2 hown hgrow _;rw[HNX.out]at hown;have F3:=hid ((F2.out.alloc F2.out.size _).grown hgrow (by have:=F2.out.size;simp;omega) (fun k hk=>(O2.out.lt k hk).1));have O3:=hid hown;clear hown hgrow;go_wp2;go_roundw
    case rel=>exact⟨i+1,by omega,by go_num,O3,F3⟩
    case measure=>simp[intOf];omega
  · have hge:decide ((i:Int)<(n:Int))=false:=by rw[decide_eq_false_iff_not];omega
    obtain rfl:i=n:=by omega
    obtain⟨g1,cap,rfl,hg1,hg2,hcap,hcs⟩:=z1U hO.out (by omega);have CE:=hid (lZ g1 (2*i) cap q (by omega) (by omega) hcap wr (HL.out _ hF.out) hg2 HQ.out (fun j hj=>hcs j _ (xR q hj)));clear hO hcs;go_wp2_with fail
    refine CE.out.mono ?_;rintro e w1 ⟨rfl,hb⟩;have F1:=hid (ak hF.out hb);clear hb;obtain⟨m0,m1,n0,n1⟩:=KR.out _ F1.out;go_wp2;refine bodyPost_ret (v:=.tuple #[.agg #[.string (Sq (exOf q (2*i-1)).1),.string (Sq (exOf q (2*i-1)).2)],.int .i64 0]) (by simp[results,Tryz.results107,go_sem,m0,m1]) rfl ⟨rfl,?_⟩;exact((KB.out _ F1.out).setCell (p:=⟨w.heap.size,0,none⟩) (Nat.le_refl _) _).setCell (p:=⟨w.heap.size,1,none⟩) (Nat.le_refl _) _
theorem oF (x y:Rat)(h:x≤y)(hx:aO x)(hy:aO y)(w:World)(hl:La w) :
 CR 19 #[.agg #[.string (Sq x),.string (Sq y)]] w (.bool true):=dQ x y h hx hy w hl
theorem xHas (x y z:Rat)(r:Bool)(hr:decide (x≤z∧z≤y)=r)(h:x≤y)(hx:aO x)(hy:aO y)(hz:aO z)(w:World)(hl:La w) :
 CR 18 #[.agg #[.string (Sq x),.string (Sq y)],.string (Sq z)] w (.bool r):=iHas x y z r hr h hx hy hz w hl
theorem xSub (a b c d s t:Rat)(hs:a-d=s)(ht:b-c=t)(h1:a≤b)(h2:c≤d)(ha:aO a)(hb:aO b)(hc:aO c)(hd:aO d)(w:World)(hl:La w) :
 CR 108 #[.agg #[.string (Sq a),.string (Sq b)],.agg #[.string (Sq c),.string (Sq d)]] w (.tuple #[.agg #[.string (Sq s),.string (Sq t)],.int .i64 0]):=iSub a b c d s t hs ht h1 h2 ha hb hc hd w hl
theorem xMul (a b c d p0 p1 p2 p3:Rat)(e0:a*c=p0)(e1:a*d=p1)(e2:b*c=p2)(e3:b*d=p3)(h1:a≤b)(h2:c≤d)(ha:aO a)(hb:aO b)(hc:aO c)(hd:aO d)(f0:aO p0)(f1:aO p1)(f2:aO p2)(f3:aO p3)(w:World)(hl:La w) :
 CR 104 #[.agg #[.string (Sq a),.string (Sq b)],.agg #[.string (Sq c),.string (Sq d)]] w (.tuple #[.agg #[.string (Sq (exOf (row4 p0 p1 p2 p3) 3).1),.string (Sq (exOf (row4 p0 p1 p2 p3) 3).2)],.int .i64 0]):=iMul a b c d p0 p1 p2 p3 e0 e1 e2 e3 h1 h2 ha hb hc hd f0 f1 f2 f3 w hl
theorem xDiv (a b c d p0 p1 p2 p3:Rat)(e0:a / c=p0)(e1:a / d=p1)(e2:b / c=p2)(e3:b / d=p3)(h1:a≤b)(h2:c≤d)(hz:decide (c≤0∧0≤d)=false)(ha:aO a)(hb:aO b)(hc:aO c)(hd:aO d)(f0:aO p0)(f1:aO p1)(f2:aO p2)(f3:aO p3)(w:World)(hl:La w) :
 CR 75 #[.agg #[.string (Sq a),.string (Sq b)],.agg #[.string (Sq c),.string (Sq d)]] w (.tuple #[.agg #[.string (Sq (exOf (row4 p0 p1 p2 p3) 3).1),.string (Sq (exOf (row4 p0 p1 p2 p3) 3).2)],.int .i64 0]):=iDiv a b c d p0 p1 p2 p3 e0 e1 e2 e3 h1 h2 hz ha hb hc hd f0 f1 f2 f3 w hl
theorem z4G (x:Rat)(hx:aO x)(w:World)(hl:La w) :
 CR 130 #[.string (Sq x)] w (.tuple #[.agg #[.string (Sq x),.string (Sq x)],.int .i64 0]):=z4Z x hx w hl
theorem jk {x y z:Rat}(h:x+y=z)(hx:aO x)(hy:aO y)(w:World)(hla:La w):CV w 26 #[.string (Sq x),.string (Sq y)] (.string (Sq z)) :=
 z0K _ _ _ 0 w (fun W hW=>qAdd x y z h hx hy W (hla.on hW))
theorem kT {x y z:Rat}(h:x-y=z)(hx:aO x)(hy:aO y)(w:World)(hla:La w):CV w 25 #[.string (Sq x),.string (Sq y)] (.string (Sq z)) :=
 yj _ _ _ 0 w (fun W hW=>qSub x y z h hx hy W (hla.on hW))
theorem fM {x y z:Rat}(h:x*y=z)(hx:aO x)(hy:aO y)(w:World)(hla:La w):CV w 23 #[.string (Sq x),.string (Sq y)] (.string (Sq z)) :=
 yc _ _ _ 0 w (fun W hW=>qMul x y z h hx hy W (hla.on hW))
theorem qH {x y z:Rat}(h:x / y=z)(hx:aO x)(hy:aO y)(h0:y≠0)(w:World)(hla:La w):CV w 24 #[.string (Sq x),.string (Sq y)] (.string (Sq z)) :=
 z0L _ _ _ 0 w (fun W hW=>qDiv x y z h hx hy h0 W (hla.on hW))
theorem mJ {x y:Rat}{c:Int}(h:cmpQ x y=c)(hx:aO x)(hy:aO y)(w:World)(hla:La w):CV w 70 #[.string (Sq x),.string (Sq y)] (.int .i64 c) :=
 yh _ _ _ 0 w (fun W hW=>qi x y c h hx hy W (hla.on hW))
theorem su1:SmQ 1 (1:Rat):=⟨by unfold Sm;decide,by unfold Sm;decide⟩
theorem su0:SmQ 1 (0:Rat):=⟨by unfold Sm;decide,by unfold Sm;decide⟩
theorem su2:SmQ 1 (2:Rat):=⟨by unfold Sm;decide,by unfold Sm;decide⟩
theorem sun:SmQ 1 (-1:Rat):=⟨by unfold Sm;decide,by unfold Sm;decide⟩
theorem uq1:Sq (1:Rat)=⟨#[49]⟩:=by decide +kernel
theorem uq0:Sq (0:Rat)=⟨#[48]⟩:=by decide +kernel
theorem uq2:Sq (2:Rat)=⟨#[50]⟩:=by decide +kernel
theorem uqn:Sq (-1:Rat)=⟨#[45,49]⟩:=by decide +kernel
theorem avcv {x:Rat}(hx:aO x)(w:World)(hla:La w):CV w 45 #[.string (Sq x)] (.bool true):=fun W hW=>jq x hx W (hla.on hW)
theorem avno {a:ByteArray}(h:vldQ a.data.toList=false)(ha:a.size≤900)(w:World)(hla:La w):CV w 45 #[.string a] (.bool false):=fun W hW=>zO a h ha W (hla.on hW)
theorem dS {t:Rat}{r:Bool}(hr:decide (-1≤t∧t≤1)=r)(ht:aO t)(w:World)(hla:La w):CV w 12 #[.string (Sq t)] (.bool r):=by
 have h:CV w 18 #[.agg #[.string (Sq (-1:Rat)),.string (Sq (1:Rat))],.string (Sq t)] (.bool r):=fun W hW=>xHas (-1) 1 t r hr (by decide +kernel) (sun.fit (by decide)) (su1.fit (by decide)) ht W (hla.on hW);rw[uqn,uq1]at h;exact p8 _ _ w h
theorem z0R {a:ByteArray}(h:vldQ a.data.toList=false)(ha:a.size≤900)(w:World)(hla:La w):CV w 12 #[.string a] (.bool false):=by
 have hv:CV w 19 #[.agg #[.string (Sq (-1:Rat)),.string (Sq (1:Rat))]] (.bool true):=fun W hW=>oF (-1) 1 (by decide +kernel) (sun.fit (by decide)) (su1.fit (by decide)) W (hla.on hW);rw[uqn,uq1]at hv;exact p8 _ _ w (z0a _ _ _ w hv (avno h ha w hla))
theorem z4e {a:ByteArray}(h:vldQ a.data.toList=false)(ha:a.size≤900)(w:World)(hla:La w):Ck1 w a 1:=fun g W hW k=>(z2S g a W ((avno h ha w hla).mono hW) k).at
theorem z4d {t:Rat}(h:¬ (-1≤t∧t≤1))(ht:aO t)(w:World)(hla:La w):Ck1 w (Sq t) 2:=fun g W hW k=>(z2R g _ W ((avcv ht w hla).mono hW) ((dS (decide_eq_false h) ht w hla).mono hW) k).at
theorem mI {t:Rat}(h : -1≤t∧t≤1)(ht:aO t)(w:World)(hla:La w):Ck1 w (Sq t) 0:=fun g W hW k=>(z4w g _ W ((avcv ht w hla).mono hW) ((dS (decide_eq_true h) ht w hla).mono hW) k).at
theorem z2E {a b:ByteArray}(h:vldQ a.data.toList=false)(ha:a.size≤900)(w:World)(hla:La w):Ck2 w a b 1:=fun g W hW k=>(z2Q g a b W ((avno h ha w hla).mono hW) k).at
theorem z2D {s:Rat}{b:ByteArray}(hs:aO s)(h:vldQ b.data.toList=false)(ha:b.size≤900)(w:World)(hla:La w):Ck2 w (Sq s) b 1:=fun g W hW k=>(z2P g _ b W ((avcv hs w hla).mono hW) ((avno h ha w hla).mono hW) k).at
theorem z2C {s t:Rat}(h:¬ (-1≤s∧s≤1))(hs:aO s)(ht:aO t)(w:World)(hla:La w):Ck2 w (Sq s) (Sq t) 2:=fun g W hW k=>(z2O g _ _ W ((avcv hs w hla).mono hW) ((avcv ht w hla).mono hW) ((dS (decide_eq_false h) hs w hla).mono hW) k).at
theorem z2B {s t:Rat}(h1 : -1≤s∧s≤1)(h:¬ (-1≤t∧t≤1))(hs:aO s)(ht:aO t)(w:World)(hla:La w):Ck2 w (Sq s) (Sq t) 2:=fun g W hW k=>(z2N g _ _ W ((avcv hs w hla).mono hW) ((avcv ht w hla).mono hW) ((dS (decide_eq_true h1) hs w hla).mono hW) ((dS (decide_eq_false h) ht w hla).mono hW) k).at
theorem wP {s t:Rat}(h1 : -1≤s∧s≤1)(h : -1≤t∧t≤1)(hs:aO s)(ht:aO t)(w:World)(hla:La w):Ck2 w (Sq s) (Sq t) 0:=fun g W hW k=>(z4v g _ _ W ((avcv hs w hla).mono hW) ((avcv ht w hla).mono hW) ((dS (decide_eq_true h1) hs w hla).mono hW) ((dS (decide_eq_true h) ht w hla).mono hW) k).at
theorem z4O {t:Rat}{k:Nat}(ht:SmQ k t):SmQ (k+k+2+(k+k+2)) (cosQ t):=by
 have a:=su1.sub (ht.mul ht);have b:=su1.add (ht.mul ht);exact(a.mono (show 1+(k+k)+1≤k+k+2 by omega)).div (b.mono (show 1+(k+k)+1≤k+k+2 by omega)) (oH t)
theorem z4N {t:Rat}{k:Nat}(ht:SmQ k t):SmQ (k+1+(k+k+2)) (sinQ t):=by
 have a:=su2.mul ht;have b:=su1.add (ht.mul ht);exact(a.mono (show 1+k≤k+1 by omega)).div (b.mono (show 1+(k+k)+1≤k+k+2 by omega)) (oH t)
theorem z3B {t:Rat}{k:Nat}(ht:SmQ k t)(hk:k≤200)(h : -1≤t∧t≤1)(w:World)(hla:La w):CV w 6 #[.string (Sq t)] (.tuple #[.string (Sq (cosQ t)),.int .i64 0]):=by
 have q:=ht.mul ht;have a:=su1.sub q;have b:=su1.add q;have h2:=kT (x:=1) (y:=t*t) rfl (su1.fit (by decide)) (q.fit (by omega)) w hla;have h3:=jk (x:=1) (y:=t*t) rfl (su1.fit (by decide)) (q.fit (by omega)) w hla;rw[uq1]at h2 h3;exact z2M _ _ _ _ _ w (fM rfl (ht.fit (by omega)) (ht.fit (by omega)) w hla) h2 h3 (qH rfl (a.fit (by omega)) (b.fit (by omega)) (oH t) w hla) (mI h (ht.fit (by omega)) w hla)
theorem z3A {t:Rat}{k:Nat}(ht:SmQ k t)(hk:k≤200)(h : -1≤t∧t≤1)(w:World)(hla:La w):CV w 8 #[.string (Sq t)] (.tuple #[.string (Sq (sinQ t)),.int .i64 0]):=by
 have q:=ht.mul ht;have a:=su2.mul ht;have b:=su1.add q;have h1:=fM (x:=2) (y:=t) rfl (su2.fit (by decide)) (ht.fit (by omega)) w hla;have h3:=jk (x:=1) (y:=t*t) rfl (su1.fit (by decide)) (q.fit (by omega)) w hla;rw[uq1]at h3;rw[uq2]at h1;exact z2I _ _ _ _ _ w h1 (fM rfl (ht.fit (by omega)) (ht.fit (by omega)) w hla) h3 (qH rfl (a.fit (by omega)) (b.fit (by omega)) (oH t) w hla) (mI h (ht.fit (by omega)) w hla)
theorem zq {s t:Rat}{k l:Nat}(hs:SmQ k s)(ht:SmQ l t)(h:1-s*t≠0):SmQ (k+l+1+(k+l+2)) (sumQ s t) :=
 (hs.add ht).div ((su1.sub (hs.mul ht)).mono (show 1+(k+l)+1≤k+l+2 by omega)) h
theorem z3y {s t:Rat}{k l:Nat}(hs:SmQ k s)(ht:SmQ l t)(hk:k+l≤400)(h1 : -1≤s∧s≤1)(h2 : -1≤t∧t≤1)(h0:1-s*t≠0)(h3 : -1≤sumQ s t∧sumQ s t≤1)(w:World)(hla:La w) :
 CV w 10 #[.string (Sq s),.string (Sq t)] (.tuple #[.string (Sq (sumQ s t)),.int .i64 0]):=by
 have p:=hs.mul ht;have m:=su1.sub p;have e3:=kT (x:=1) (y:=s*t) rfl (su1.fit (by decide)) (p.fit (by omega)) w hla;rw[uq1]at e3;exact z2G _ _ _ _ _ _ w (jk rfl (hs.fit (by omega)) (ht.fit (by omega)) w hla) (fM rfl (hs.fit (by omega)) (ht.fit (by omega)) w hla) e3 (fun W hW=>qDiv (s+t) (1-s*t) (sumQ s t) rfl ((hs.add ht).fit (by omega)) (m.fit (by omega)) h0 W (hla.on hW)) (dS (decide_eq_true h3) ((zq hs ht h0).fit (by omega)) w hla) (wP h1 h2 (hs.fit (by omega)) (ht.fit (by omega)) w hla)
theorem lN {s t:Rat}{k l:Nat}(hs:SmQ k s)(ht:SmQ l t)(hk:k+l≤400)(h1 : -1≤s∧s≤1)(h2 : -1≤t∧t≤1)(h3:¬ (1-s*t≠0∧(-1≤sumQ s t∧sumQ s t≤1)))(w:World)(hla:La w) :
 CV w 10 #[.string (Sq s),.string (Sq t)] (.tuple #[.string ⟨#[]⟩,.int .i64 15]):=by
 have p:=hs.mul ht;have m:=su1.sub p;have e3:=kT (x:=1) (y:=s*t) rfl (su1.fit (by decide)) (p.fit (by omega)) w hla;rw[uq1]at e3;have e1:=jk (x:=s) (y:=t) rfl (hs.fit (by omega)) (ht.fit (by omega)) w hla;have e2:=fM (x:=s) (y:=t) rfl (hs.fit (by omega)) (ht.fit (by omega)) w hla;have kc:=wP h1 h2 (hs.fit (by omega)) (ht.fit (by omega)) w hla;by_cases h0:1-s*t=0
 · rw[h0,uq0]at e3
   exact z0G _ _ _ _ _ w e1 e2 e3 (fun W hW=>zQ (s+t) ((hs.add ht).fit (by omega)) W (hla.on hW)) kc
 · have h4:¬ (-1≤sumQ s t∧sumQ s t≤1):=fun h=>h3 ⟨h0,h⟩
   exact yf _ _ _ _ _ _ w e1 e2 e3 (fun W hW=>qDiv (s+t) (1-s*t) (sumQ s t) rfl ((hs.add ht).fit (by omega)) (m.fit (by omega)) h0 W (hla.on hW)) (dS (decide_eq_false h4) ((zq hs ht h0).fit (by omega)) w hla) kc
theorem unat (n:Nat):Sz (n:Int)=Sq ((n:Nat):Rat):=(vH (n:Int)).symm
theorem yT {k n:Nat}(h:Sm k n)(hk:1≤k):SmQ k ((n:Nat):Rat) :=
 ⟨(show Sm k (((n:Nat):Rat)).num.natAbs from by simpa using h),(show Sm k (((n:Nat):Rat)).den from by
   have:(((n:Nat):Rat)).den=1:=rfl;rw[this]
   exact(show Sm 1 1 by unfold Sm;decide).mono hk)⟩
theorem z3p (i:Nat):((2*i+1:Nat):Rat)≠0:=by
 intro h;have:=Rat.natCast_eq_zero_iff.1 h;omega
theorem zt {x:Rat}{k:Nat}(hx:SmQ k x):∀ i,SmQ (k+(k+k)*i) (powU x i)
 | 0=>hx
 | i+1=>by
   have h:=(zt hx i).mul (hx.mul hx).neg
   have e:powU x (i+1)=powU x i * -(x*x):=by
    show powU x i*(0-x*x)=_
    rw[show(0:Rat)-x*x = -(x*x) from by grind]
   rw[e];exact h.mono (by rw[Nat.mul_add];omega)
theorem zo {x:Rat}{k c i:Nat}(hx:SmQ k x)(hi:i<c)(hc:c≤1000):SmQ (k+(k+k)*c+4) (mg x i):=by
 have h:=(zt hx i).mono (show k+(k+k)*i≤k+(k+k)*c from Nat.add_le_add_left (Nat.mul_le_mul_left _ (Nat.le_of_lt hi)) _);have ho:Sm 4 (2*i+1):=by unfold Sm;omega
 exact h.div (yT ho (by decide)) (z3p i)
def sumP (x:Rat) {c:Nat} (l:List {i:Nat // i<c}):Rat:=(l.map (·.1)).foldl (fun a i=>a+mg x i) 0
theorem yY (x:Rat){c:Nat}(l:List {i:Nat // i<c})(y:{i:Nat // i<c}):sumP x (l++[y])=sumP x l+mg x y.1:=by simp[sumP]
theorem lu (x:Rat):∀ n,(List.range n).foldl (fun a i=>a+mg x i) 0=serU x n
 | 0=>rfl
 | n+1=>by rw[List.range_succ,List.foldl_append,lu x n];rfl
theorem z3K {x:Rat}{c K:Nat}(hK:∀ i,i<c→SmQ K (mg x i))(l:List {i:Nat // i<c}):SmQ (l.length*(K+1)+1) (sumP x l):=by
 have gen:∀ (l:List {i:Nat // i<c}) (a:Rat) (m:Nat),SmQ m a→SmQ (m+l.length*(K+1)) ((l.map (·.1)).foldl (fun a i=>a+mg x i) a):=by
  intro l
  induction l with
  | nil=>intro a m h;simpa using h
  | cons y l ih =>
    intro a m h;have:=ih (a+mg x y.1) (m+K+1) (h.add (hK y.1 y.2));refine SmQ.mono this ?_;rw[List.length_cons,Nat.add_mul];omega
 exact(gen l 0 1 su0).mono (by omega)
def serI (x:Rat) (n:Nat):Rat × Rat:=exOf (row4 (serU x n) (serU x n) (serU x (n+1)) (serU x (n+1))) 3
theorem vI {x:Rat}{K:Nat}(n:Nat)(hK:∀ i,i<n→SmQ K (mg x i)):SmQ (n*(K+1)+1) (serU x n):=by
 induction n with
 | zero=>exact su0.mono (by omega)
 | succ n ih =>
   have:=(ih (fun i hi=>hK i (by omega))).add (hK n (by omega));exact this.mono (by rw[Nat.add_mul];omega)
theorem lQ {x:Rat}(hx:aO x)(w:World)(hla:La w):CV w 105 #[.string (Sq x)] (.agg #[.string (Sq x),.string (Sq x)]) :=
 sV _ _ _ 0 w (fun W hW=>z4G x hx W (hla.on hW))
theorem kX {x:Rat}{k n:Nat}(hx:SmQ k x)(hn:n≤24)(hk:(n+1)*(k+(k+k)*(n+1)+4+1)+1≤900)(w:World)(hla:La w) :
 CV w 72 #[.string (Sq x),.int .i64 (n:Int)] (.agg #[.string (Sq (serI x n).1),.string (Sq (serI x n).2)]):=by
 obtain⟨K,eK⟩:∃ K,k+(k+k)*(n+1)+4=K:=⟨_,rfl⟩;have hK:∀ i,i<n+1→SmQ K (mg x i):=fun i hi=>eK▸zo hx hi (by omega);rw[eK]at hk;have hk1:K+1≤(n+1)*(K+1):=Nat.le_mul_of_pos_left _ (by omega);have hkK:K≤900:=by omega
 have hk2:k≤K:=by omega
 have hkk:k+k≤K:=by rw[← eK,Nat.mul_add];omega
 have hx9:aO x:=hx.fit (by omega);have hq:=hx.mul hx;have h1:=fM (x:=x) (y:=x) rfl hx9 hx9 w hla;have h2:=kT (x:=0) (y:=x*x) rfl (su0.fit (by decide)) (hq.fit (by omega)) w hla;rw[uq0]at h2
 have hpw:∀ i,i<n+1→SmQ K (powU x i):=fun i hi=>(zt hx i).mono (by
  rw[← eK];have:=Nat.mul_le_mul_left (k+k) (Nat.le_of_lt hi)
  omega)
 have hlen:∀ m,m≤n+1→m*(K+1)+1≤900:=fun m hm=>by
  have:=Nat.mul_le_mul_right (K+1) hm;omega
 have hsb:=(vI n (fun i hi=>hK i (by omega))).fit (hlen n (by omega));have hss:=(vI (n+1) hK).fit (hlen (n+1) (by omega));refine xz (Sq x) _ _ (fun i=>Sq (powU x i)) (fun i=>Sq (mg x i)) (fun i=>Sq ((2*i+1:Nat):Rat)) (n+1) (n:Int) (fun l=>Sq (sumP x l)) (Sq (serU x n)) (Sq (serU x (n+1))) _ _ (by omega) (by omega) w h1 h2 rfl ?_ ?_ ?_ uq0 ?_ ?_ (lQ hsb w hla) (lQ hss w hla) ?_
 · intro i hi W hW
   have h:=z5H (2*(i:Int)+1) (by omega) (by omega) W (hla.on hW);rw[show 2*(i:Int)+1=((2*i+1:Nat):Int) by omega]at h ⊢;rwa [unat]at h
 · intro i hi
   have ho:Sm 4 (2*i+1):=by unfold Sm;omega
   exact qH rfl ((hpw i hi).fit hkK) ((yT ho (by decide)).fit (by decide)) (z3p i) w hla
 · intro i hi
   refine fM rfl ((hpw i hi).fit hkK) ?_ w hla;rw[show(0:Rat)-x*x = -(x*x) from by grind];exact hq.neg.fit (by omega)
 · intro pre y hp
   have hl:=hlen pre.length (by omega);exact jk (yY x pre y).symm ((z3K hK pre).fit hl) ((hK y.1 y.2).fit hkK) w hla
 · intro ys hys
   constructor
   · have e:(ys.dropLast).map (·.1)=List.range n:=by
        rw[List.map_dropLast,hys,List.range_succ,List.dropLast_concat]
     show Sq (sumP x ys.dropLast)=_
     rw[sumP,e,lu]
   · show Sq (sumP x ys)=_
     rw[sumP,hys,lu]
 · intro g W hW k4
   have h:=z2g g 2 2 (row4 (serU x n) (serU x n) (serU x (n+1)) (serU x (n+1))) (by decide) (by decide) (by decide) W (hla.on hW) k4.lt
    (fun i hi=>match i,hi with
        | 0,_=>hsb
        | 1,_=>hsb
        | 2,_=>hss
        | 3,_=>hss)
    (fun i hi=>match i,hi with
        | 0,_=>Rat.le_refl
        | 1,_=>Rat.le_refl)
    (fun i hi=>match i,hi with
        | 0,_=>k4.cell (i:=0) rfl
        | 1,_=>k4.cell (i:=1) rfl
        | 2,_=>k4.cell (i:=2) rfl
        | 3,_=>k4.cell (i:=3) rfl)
   exact h
theorem z4M {q:Rat}{k:Nat}(h:SmQ k q)(h0:0<k)(hk:k≤10000):LQ q:=⟨Nat.le_trans (gu h.1 h0) hk,Nat.le_trans (gu h.2 h0) hk⟩
theorem zG (a:ByteArray)(ha:a.size≤900):∃ q:Rat,∀ W,Calls Tryz.prog 54 #[.string a] W fun e w'=>∃ p c s d,e=.returned (.tuple #[.agg #[.bool (ah q.num),.slice p (aa q.num) c,.slice s (ag q.den) d],.bool (vldQ a.data.toList)])∧RN w' (.slice p (aa q.num) c) q.num.natAbs∧RN w' (.slice s (ag q.den) d) q.den∧Below W.heap.size W w':=by
 cases h:vldQ a.data.toList with
 | false=>exact⟨0,fun W=>z1E a h ha W⟩
 | true =>
   have e:=z4K h;obtain⟨q,hq⟩:∃ q,q=qval a.data.toList:=⟨_,rfl⟩;rw[← hq]at e;subst e;exact⟨q,fun W=>z5y q (z3i ha (by decide)) (by omega) W⟩
end Go.Proofs.YtodcdibanokjjaaGreatDoor
