/- texts -/
import Derived.Test.YtbcnefnbkdbobaaGreatDoorMz44q
open Go.Proofs.Tryz
namespace Go.Proofs.YtbcnefnbkdbobaaGreatDoor
open Go.RowKit Go.Gb
def Iv (g:Nat) (x y:ByteArray) (W:World):Prop:=g<W.heap.size∧W.cell? ⟨g,0,none⟩=some (.string x)∧W.cell? ⟨g,1,none⟩=some (.string y)
theorem Iv.mono {g:Nat}{x y:ByteArray}{W W':World}(h:Iv g x y W)(hb:Below W.heap.size W W'):Iv g x y W' :=
 ⟨Nat.lt_of_lt_of_le h.1 hb.size,(hb.cell (p:=⟨g,0,none⟩) h.1).trans h.2.1,(hb.cell (p:=⟨g,1,none⟩) h.1).trans h.2.2⟩
theorem bP (W:World)(o:Obj):Below W.heap.size W (W.alloc o):=(Below.refl W.heap.size W).alloc (Nat.le_refl _) o
theorem Iv.al {g:Nat}{x y:ByteArray}{W:World}(h:Iv g x y W)(o:Obj):Iv g x y (W.alloc o):=h.mono (bP W o)
theorem yL (W:World)(x y:ByteArray):Iv W.heap.size x y (W.alloc (.cells #[.string x,.string y] 24)) :=
 ⟨by simp,(ax rfl).trans rfl,(ax rfl).trans rfl⟩theorem iv_boxg {W:World} {g:Nat} (hg:g=W.heap.size) (x y:ByteArray):Iv g x y (W.alloc (.cells #[.string x,.string y] 24)):=by subst hg;exact yL W x y
theorem dK (a b:ByteArray)(w:World):CR 16 #[.string a,.string b] w (.agg #[.string a,.string b]):=by
 have HB:=Lib.hid (bP w (.cells #[.string a,.string b] 24));go_enter func16,ntmps16
 go_wp2;exact bodyPost_ret (v:=.agg #[.string a,.string b]) (by simp[results,results16,go_sem]) rfl ⟨rfl,HB.o⟩
theorem z0u (g:Nat)(a:ByteArray)(w:World)(ha:a.size≤40)(hc:w.cell? ⟨g,0,none⟩=some (.string a)) :
 Calls Tryz.prog 6 #[.slice (some ⟨g,0,none⟩) 1 1] w fun e w'=>e=.returned (.bool false)∧w=w':=by
 have c0:=hc;clear hc;have ka:¬ (40:Int)<(a.size:Int):=by omega
 go_enter func6,ntmps6
 go_wp2;refine wp_loop_rounds 2 ?_;rw[rounds_succ];go_wp2;rw[rounds_succ];go_wp2;go_ret
 exact⟨rfl,rfl⟩
theorem yJ (g:Nat)(a:ByteArray)(w:World)(hab:40<a.size)(hc:w.cell? ⟨g,0,none⟩=some (.string a)) :
 Calls Tryz.prog 6 #[.slice (some ⟨g,0,none⟩) 1 1] w fun e w'=>e=.returned (.bool true)∧w=w':=by
 have c0:=hc;clear hc;have ka:(40:Int)<(a.size:Int):=by omega
 clear hab;go_enter func6,ntmps6
 go_wp2;refine wp_loop_rounds 2 ?_;rw[rounds_succ];go_wp2;go_ret
 exact⟨rfl,rfl⟩
theorem sO (w:World)(a b:ByteArray):(w.alloc (.cells #[.string a,.string b] 22)).cell? ⟨w.heap.size,0,none⟩=some (.string a)∧(w.alloc (.cells #[.string a,.string b] 22)).cell? ⟨w.heap.size,1,none⟩=some (.string b):=by
 refine⟨?_,?_⟩<;>simp
theorem z0t (g:Nat)(a b:ByteArray)(w:World)(ha:a.size≤40)(hb:b.size≤40)(hc:w.cell? ⟨g,0,none⟩=some (.string a)∧w.cell? ⟨g,1,none⟩=some (.string b)) :
 Calls Tryz.prog 6 #[.slice (some ⟨g,0,none⟩) 2 2] w fun e w'=>e=.returned (.bool false)∧w=w':=by
 obtain⟨c0,c1⟩:=hc;have ka:¬ (40:Int)<(a.size:Int):=by omega
 have kb:¬ (40:Int)<(b.size:Int):=by omega
 go_enter func6,ntmps6
 go_wp2;refine wp_loop_rounds 3 ?_;rw[rounds_succ];go_wp2;rw[rounds_succ];go_wp2;rw[rounds_succ];go_wp2;go_ret
 exact⟨rfl,rfl⟩
theorem yI (g:Nat)(a b:ByteArray)(w:World)(hab:40<a.size∨40<b.size)(hc:w.cell? ⟨g,0,none⟩=some (.string a)∧w.cell? ⟨g,1,none⟩=some (.string b)) :
 Calls Tryz.prog 6 #[.slice (some ⟨g,0,none⟩) 2 2] w fun e w'=>e=.returned (.bool true)∧w=w':=by
 obtain⟨c0,c1⟩:=hc;by_cases ha:40<a.size
 · have ka:(40:Int)<(a.size:Int):=by omega
   clear hab;go_enter func6,ntmps6
   go_wp2;refine wp_loop_rounds 3 ?_;rw[rounds_succ];go_wp2;go_ret
   exact⟨rfl,rfl⟩
 · have ka:¬ (40:Int)<(a.size:Int):=by omega
   have kb:(40:Int)<(b.size:Int):=by omega
   clear hab;go_enter func6,ntmps6
   go_wp2;refine wp_loop_rounds 3 ?_;rw[rounds_succ];go_wp2;rw[rounds_succ];go_wp2;go_ret
   exact⟨rfl,rfl⟩
end Go.Proofs.YtbcnefnbkdbobaaGreatDoor
set_option maxRecDepth 100000
set_option maxHeartbeats 20000000
open Go.Lib (hid)
namespace Go.Proofs.YtbcnefnbkdbobaaGreatDoor
open Go.RowKit Go.Gb
theorem xw (x y:ByteArray)(r:Bool)(hr:(decide (40<x.size) || decide (40<y.size))=r)(w:World) :
 CR 25 #[.agg #[.string x,.string y]] w (.bool r):=by
 have HI:=hid (yL w x y);have HB:=hid ((bP w (.cells #[.string x,.string y] 24)).alloc (by simp) (.cells #[.string x,.string y] 22));have hc:=sO (w.alloc (.cells #[.string x,.string y] 24)) x y;rw[show(w.alloc (.cells #[.string x,.string y] 24)).heap.size=w.heap.size+1 by simp]at hc
 have HC:Hid (Calls Tryz.prog 6 #[.slice (some ⟨w.heap.size+1,0,none⟩) 2 2] ((w.alloc (.cells #[.string x,.string y] 24)).alloc (.cells #[.string x,.string y] 22)) fun e w'=>e=.returned (.bool r)∧((w.alloc (.cells #[.string x,.string y] 24)).alloc (.cells #[.string x,.string y] 22))=w'):=hid (by
  by_cases h:40<x.size∨40<y.size
  · have e:r=true:=by rw[← hr];simpa using h
    subst e;exact yI _ x y _ h hc
  · have e:r=false:=by rw[← hr];simp;omega
    subst e
    exact z0t _ x y _ (by omega) (by omega) hc)
 clear hc hr;go_enter func25,ntmps25
 obtain⟨_,m0,m1⟩:=HI.o;go_wp2_with fail
 refine HC.o.mono ?_;rintro e w' ⟨rfl,rfl⟩;go_wp2;go_ret
 exact⟨rfl,HB.o⟩
theorem xA (g:Nat)(l1 h1:ByteArray)(w:World)(s0:(decide (40<l1.size) || decide (40<h1.size))=true)(hg:g<w.heap.size)(hc:w.cell? ⟨g,0,none⟩=some (.string l1)∧w.cell? ⟨g,1,none⟩=some (.string h1)) :
 CR 5 #[.slice (some ⟨g,0,none⟩) 1 1] w (.bool true):=by
 obtain⟨c0,c1⟩:=hc;have w9:=hid (Below.refl w.heap.size w);have K0:=hid (show ∀ W,Below w.heap.size w W→W.cell? ⟨g,0,none⟩=some (.string l1) from fun W hB=>(hB.cell (p:=⟨g,0,none⟩) hg).trans c0);have K1:=hid (show ∀ W,Below w.heap.size w W→W.cell? ⟨g,1,none⟩=some (.string h1) from fun W hB=>(hB.cell (p:=⟨g,1,none⟩) hg).trans c1);have S0:=hid s0;clear s0 hg;go_enter func5,ntmps5
 go_wp2;refine wp_loop_rounds 2 ?_;rw[rounds_succ];go_wp2_with fail
 refine(xw l1 h1 _ S0.o _).mono ?_;rintro e w1 ⟨rfl,hb⟩;have u6:=hbt w9 hb;clear hb c0 c1;have c0:=K0.o _ u6.o;have c1:=K1.o _ u6.o;go_wp2;go_ret
 exact⟨rfl,u6.o⟩
theorem z01 (g:Nat)(l1 h1:ByteArray)(w:World)(s0:(decide (40<l1.size) || decide (40<h1.size))=false)(hg:g<w.heap.size)(hc:w.cell? ⟨g,0,none⟩=some (.string l1)∧w.cell? ⟨g,1,none⟩=some (.string h1)) :
 CR 5 #[.slice (some ⟨g,0,none⟩) 1 1] w (.bool false):=by
 obtain⟨c0,c1⟩:=hc;have w9:=hid (Below.refl w.heap.size w);have K0:=hid (show ∀ W,Below w.heap.size w W→W.cell? ⟨g,0,none⟩=some (.string l1) from fun W hB=>(hB.cell (p:=⟨g,0,none⟩) hg).trans c0);have K1:=hid (show ∀ W,Below w.heap.size w W→W.cell? ⟨g,1,none⟩=some (.string h1) from fun W hB=>(hB.cell (p:=⟨g,1,none⟩) hg).trans c1);have S0:=hid s0;clear s0 hg;go_enter func5,ntmps5
 go_wp2;refine wp_loop_rounds 2 ?_;rw[rounds_succ];go_wp2_with fail
 refine(xw l1 h1 _ S0.o _).mono ?_;rintro e w1 ⟨rfl,hb⟩;have u6:=hbt w9 hb;clear hb c0 c1;have c0:=K0.o _ u6.o;have c1:=K1.o _ u6.o;go_wp2;rw[rounds_succ];go_wp2;go_ret
 exact⟨rfl,u6.o⟩
theorem xy (g:Nat)(l1 h1:ByteArray)(w:World)(h:40<l1.size∨40<h1.size)(hg:g<w.heap.size)(hc:w.cell? ⟨g,0,none⟩=some (.string l1)∧w.cell? ⟨g,1,none⟩=some (.string h1)) :
 CR 5 #[.slice (some ⟨g,0,none⟩) 1 1] w (.bool true):=by
 have s0:(decide (40<l1.size) || decide (40<h1.size))=true:=by simp at *;omega
 exact xA g l1 h1 w s0 hg hc
theorem lY (g:Nat)(l1 h1:ByteArray)(w:World)(s0:l1.size≤40∧h1.size≤40)(hg:g<w.heap.size)(hc:w.cell? ⟨g,0,none⟩=some (.string l1)∧w.cell? ⟨g,1,none⟩=some (.string h1)) :
 CR 5 #[.slice (some ⟨g,0,none⟩) 1 1] w (.bool false) :=
 z01 g l1 h1 w (by simp;omega) hg hc
theorem wG (w:World)(l1 h1 l2 h2:ByteArray):(w.alloc (.cells #[.string l1,.string h1,.string l2,.string h2] 24)).cell? ⟨w.heap.size,0,none⟩=some (.string l1)∧(w.alloc (.cells #[.string l1,.string h1,.string l2,.string h2] 24)).cell? ⟨w.heap.size,1,none⟩=some (.string h1)∧(w.alloc (.cells #[.string l1,.string h1,.string l2,.string h2] 24)).cell? ⟨w.heap.size,2,none⟩=some (.string l2)∧(w.alloc (.cells #[.string l1,.string h1,.string l2,.string h2] 24)).cell? ⟨w.heap.size,3,none⟩=some (.string h2) :=
 ⟨(ax rfl).trans rfl,(ax rfl).trans rfl,(ax rfl).trans rfl,(ax rfl).trans rfl⟩
open Go.Lib (hid)
def hcells (q:Nat→Rat) (m:Nat):List Value:=(List.range m).map fun j => .string (Sq (q j))
theorem wJ (q:Nat→Rat)(i:Nat):hcells q (2*i)++[.string (Sq (q (2*i))),.string (Sq (q (2*i+1)))]=hcells q (2*i+2):=by
 unfold hcells
 rw[List.range_succ,List.range_succ];simp
theorem wK (q:Nat→Rat){m i:Nat}(h:i<m):(hcells q m)[i]? = some (.string (Sq (q i))):=by
 unfold hcells
 simp[h]
theorem z0m {W:World}{base n:Nat}{e:TypeId}{v:Value}{xs:List Value}(h:W.ownsRow base e 1 v n xs)(hn:0<n) :
 ∃ g cap,v=.slice (some ⟨g,0,none⟩) n cap∧base≤g∧g<W.heap.size∧n≤cap∧∀ i x,xs[i]? = some x→W.cell? ⟨g,i,none⟩=some x:=by
 obtain⟨h1,h2⟩:=h;rcases h2 with⟨h2,h3⟩|⟨g,cap,cur,hv,hg,hh,hn2,hc,hs,ht⟩
 · omega
 · refine⟨g,cap,hv,hg,(Array.getElem?_eq_some_iff.1 hh).1,hn2,fun i x hx=>?_⟩
   have hi:i<n:=by
    have:=(List.getElem?_eq_some_iff.1 hx).1;omega
   rw[← ht,Nat.mul_one,List.getElem?_take,if_pos hi]at hx;simp only[World.cell?,hh];simpa using hx
theorem own_below {W W':World}{base n:Nat}{e:TypeId}{v:Value}{xs:List Value}(h:W.ownsRow base e 1 v n xs)(hb:Below W.heap.size W W'):W'.ownsRow base e 1 v n xs:=by
 obtain⟨h1,h2⟩:=h;refine⟨h1,?_⟩;rcases h2 with h2|⟨g,cap,cur,hv,hg,hh,r⟩
 · exact Or.inl h2
 · exact Or.inr ⟨g,cap,cur,hv,hg,by rw[hb.block g (Array.getElem?_eq_some_iff.1 hh).1];exact hh,r⟩
theorem vT (w:World)(u v:Value)(T:TypeId):∀ j x,[u,v][j]? = some x→(w.alloc (.cells #[u,v] T)).cell? ((⟨w.heap.size,0,none⟩:Addr).add j)=some x:=by
 intro j x hj
 match j,hj with
 | 0,hj=>simp at hj;subst hj;simp[Addr.add]
 | 1,hj=>simp at hj;subst hj;simp[Addr.add]
theorem z0h:∃ i0:TypeInfo,Tryz.prog.info? 22=some i0∧i0.zero=some (.string ⟨#[]⟩)∧i0.size=1∧i0.bytes=16:=by
 have h1:(Tryz.prog.info? 22).map (fun i=>i.zero)=some (some (.string ⟨#[]⟩)):=by kernel_rfl
 have h2:(Tryz.prog.info? 22).map (fun i=>i.size)=some 1:=by kernel_rfl
 have h3:(Tryz.prog.info? 22).map (fun i=>i.bytes)=some 16:=by kernel_rfl
 cases h:Tryz.prog.info? 22 with
 | none=>rw[h]at h1;cases h1
 | some i =>
   rw[h]at h1 h2 h3;exact⟨i,rfl,by simpa using h1,by simpa using h2,by simpa using h3⟩
theorem z0D (g n c:Nat)(q:Nat→Rat)(hn1:1≤n)(hn2:n≤1024)(hnc:n≤c)(w:World)(hl:La w)(hg:g<w.heap.size)
 (hq:∀ i,i<2*n→aL (q i)) (hv:∀ i,i<n→q (2*i)≤q (2*i+1)) (hcell:∀ i,i<2*n→w.cell? ⟨g,i,none⟩=some (.string (Sq (q i)))) :
 CR 23 #[.slice (some ⟨g,0,none⟩) n c] w (.tuple #[Vq (exOf q (2*n-1)).1 (exOf q (2*n-1)).2,.int .i64 0]):=by
 obtain⟨i0,hi,hz0,hz1,hz2⟩:=z0h;obtain⟨w0,hw0⟩:∃ w0:World,w0=w.alloc (.cells #[.string ⟨#[]⟩,.string ⟨#[]⟩] 24):=⟨_,rfl⟩;have hs0:w0.heap.size=w.heap.size+1:=by rw[hw0];simp
 have hb0:Below w.heap.size w w0:=by rw[hw0];exact bP w _
 have hr0:w0.cell? ⟨w.heap.size,0,none⟩=some (.string ⟨#[]⟩)∧w0.cell? ⟨w.heap.size,1,none⟩=some (.string ⟨#[]⟩)∧w0.frozen? ⟨w.heap.size,0,none⟩=false∧w0.frozen? ⟨w.heap.size,1,none⟩=false:=by
  rw[hw0];exact⟨(ax rfl).trans rfl,(ax rfl).trans rfl,aS rfl,aS rfl⟩
 have HQ:=hid hq;have HV:=hid hv;have KB:=hid (show ∀ W:World,Below w0.heap.size w0 W→Below w.heap.size w W from fun W hB=>hb0.trans (hB.mono (by omega)));have HC:=hid (show ∀ W:World,Below w0.heap.size w0 W→∀ i,i<2*n→W.cell? ⟨g,i,none⟩=some (.string (Sq (q i))) from fun W hB i hi'=>((KB.o W hB).cell (p:=⟨g,i,none⟩) hg).trans (hcell i hi'))
 have KR:=hid (show ∀ W:World,Below w0.heap.size w0 W→(W.cell? ⟨w.heap.size,0,none⟩=some (.string ⟨#[]⟩)∧W.cell? ⟨w.heap.size,1,none⟩=some (.string ⟨#[]⟩)∧W.frozen? ⟨w.heap.size,0,none⟩=false∧W.frozen? ⟨w.heap.size,1,none⟩=false) from fun W hB=>by
  obtain⟨c0,c1,f0,f1⟩:=hr0
  exact⟨(hB.cell (p:=⟨w.heap.size,0,none⟩) (by show w.heap.size<_;omega)).trans c0,(hB.cell (p:=⟨w.heap.size,1,none⟩) (by show w.heap.size<_;omega)).trans c1,(hB.frozen (p:=⟨w.heap.size,0,none⟩) (by show w.heap.size<_;omega)).trans f0,(hB.frozen (p:=⟨w.heap.size,1,none⟩) (by show w.heap.size<_;omega)).trans f1⟩)
 have HL:=hid (show ∀ W:World,Below w0.heap.size w0 W→La W from fun W hB=>hl.on (KB.o W hB));have KZ:=hid (show ∀ W:World,Below w0.heap.size w0 W→w.heap.size+1≤W.heap.size from fun W hB=>by have:=hB.size;omega);obtain ⟨F0,HS,HW0⟩:=av (Below.refl w0.heap.size w0) hs0 hw0;have ne0:¬ (n:Int)=0:=by omega
 have ne1:¬ (1024:Int)<(n:Int):=by omega
 have nc:(n:Int)≤(c:Int):=by omega
 clear hq hv hcell hb0 hr0 hl hs0 hw0;go_enter func23,ntmps23
 go_wp2;rw[← HW0.o];go_loopw [4,6,17] (fun v _ ii wr=>∃ (i:Nat),i≤n∧ii=.int .i64 (i:Int)∧Hid (wr.ownsRow w0.heap.size 22 1 v (2*i) (hcells q (2*i)))∧Hid (Below w0.heap.size w0 wr)) (fun _ _ ii _=>n-(intOf ii).toNat)
 case atStart=>exact⟨0,by omega,rfl,hid (World.ownsRow_nil w0 w0.heap.size 22 1),F0⟩
 case round =>
  obtain⟨i,hin,rfl,hO,hF⟩:=hrel;have hi2:(i:Int)≤1024:=by omega
  have hi3:(0:Int)≤(i:Int):=by omega
  have wi:IntKind.i64.wrap ((i:Int)+1)=(i:Int)+1:=IntWalk.i64_in _ (by omega);by_cases hlt:i<n
  · have c0:wr.cell? ⟨g,i*2,none⟩=some (.string (Sq (q (2*i)))):=by rw[Nat.mul_comm];exact HC.o _ hF.o (2*i) (by omega)
    have c1:wr.cell? ⟨g,i*2+1,none⟩=some (.string (Sq (q (2*i+1)))):=by rw[Nat.mul_comm];exact HC.o _ hF.o (2*i+1) (by omega)
    have FX:=hid (HQ.o (2*i) (by omega));have FY:=hid (HQ.o (2*i+1) (by omega));obtain ⟨HXY,HNX⟩:=aI (HV.o i hlt) (wJ q i);generalize q (2*i)=x at *;generalize q (2*i+1)=y at *;have hlt1:(i:Int)<(n:Int):=by omega
    have CV:=hid (fun W hW=>show CR 11 #[.agg #[.string (Sq x),.string (Sq y)]] W (.bool true) from bI x y HXY.o FX.o FY.o W hW);go_wp2_with fail
    obtain ⟨F1,O1⟩:=aI (hF.o.alloc hF.o.size (.cells #[.string (Sq x),.string (Sq y)] 24)) (hO.o.alloc (.cells #[.string (Sq x),.string (Sq y)] 24));refine(CV.o _ (HL.o _ F1.o)).mono ?_;rintro e w1 ⟨rfl,hb⟩;obtain ⟨V2,F2,O2⟩:=av ((yL wr (Sq x) (Sq y)).mono hb) (ae F1.o hb) (own_below O1.o hb);clear hb c0 c1 F1 O1 CV;obtain⟨_,c0,c1⟩:=V2.o;go_wp2_with (at_builtin;refine wpList_append_own _ rfl _ _ 44 rfl w0.heap.size 22 i0 (.string ⟨#[]⟩) 1 16 underlying44 hi hz0 hz1 hz2 rfl (by decide) _ (2*i) (hcells q (2*i)) rfl (O2.o.alloc _) ⟨w1.heap.size,0,none⟩ 2 2 [.string (Sq x),.string (Sq y)] rfl rfl (vT _ _ _ _) (by intro u hu;simp at hu;rcases hu with rfl|rfl<;>rfl) (by unfold maxLen;omega) (by omega) (by have:=F2.o.size;simp;omega) ?_)
    intro v' w2 hown hgrow _;rw[HNX.o]at hown;have F3:=hid ((F2.o.alloc F2.o.size _).grown hgrow (by have:=F2.o.size;simp;omega) (fun k hk=>(O2.o.lt k hk).1));have O3:=hid hown;clear hown hgrow;go_wp2;go_roundw
    case rel=>exact⟨i+1,by omega,by go_num,O3,F3⟩
    case measure=>simp[intOf];omega
  · have hge:decide ((i:Int)<(n:Int))=false:=by rw[decide_eq_false_iff_not];omega
    obtain rfl:i=n:=by omega
    obtain⟨g1,cap,rfl,hg1,hg2,hcap,hcs⟩:=z0m hO.o (by omega);have CE:=hid (gV g1 (2*i) cap q (by omega) (by omega) hcap wr (HL.o _ hF.o) hg2 HQ.o (fun j hj=>hcs j _ (wK q hj)));clear hO hcs;go_wp2_with fail
    refine CE.o.mono ?_;rintro e w1 ⟨rfl,hb⟩;have F1:=hid (ae hF.o hb);clear hb;obtain⟨m0,m1,n0,n1⟩:=KR.o _ F1.o;go_wp2;refine bodyPost_ret (v:=.tuple #[.agg #[.string (Sq (exOf q (2*i-1)).1),.string (Sq (exOf q (2*i-1)).2)],.int .i64 0]) (by simp[results,results23,go_sem,m0,m1]) rfl ⟨rfl,?_⟩;exact((KB.o _ F1.o).setCell (p:=⟨w.heap.size,0,none⟩) (Nat.le_refl _) _).setCell (p:=⟨w.heap.size,1,none⟩) (Nat.le_refl _) _
