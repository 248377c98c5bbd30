/- texts -/
import Derived.Test.YteihfbkaieemdaaGreatDoorMz45q
open Go.Proofs.Tryz
set_option maxRecDepth 100000
set_option maxHeartbeats 20000000
open Go.Lib (hid)
namespace Go.Proofs.YteihfbkaieemdaaGreatDoor
open Go.RowKit Go.Gb
def LI (W:World) (g o n:Nat) (X:Nat→ByteArray):Prop:=g<W.heap.size∧∀ j,j<n*2→W.cell? ⟨g,o+j,none⟩=some (.string (X j))
theorem LI.below {W W':World}{g o n:Nat}{X:Nat→ByteArray}(h:LI W g o n X)(hb:Below W.heap.size W W'):LI W' g o n X :=
 ⟨Nat.lt_of_lt_of_le h.1 hb.size,fun j hj=>(hb.cell (p:=⟨g,o+j,none⟩) h.1).trans (h.2 j hj)⟩
theorem LI.at {W:World}{g o n:Nat}{X:Nat→ByteArray}(h:LI W g o n X){i:Nat}(hi:i<n):W.cell? ⟨g,o+i*2,none⟩=some (.string (X (i*2)))∧W.cell? ⟨g,o+i*2+1,none⟩=some (.string (X (i*2+1))) :=
 ⟨h.2 (i*2) (by omega),h.2 (i*2+1) (by omega)⟩
def LJ (n:Nat) (X:Nat→ByteArray):List Value:=(List.range (n*2)).map fun j => .string (X j)
def SI (W:World) (a:Option Addr) (n c:Nat) (X:Nat→ByteArray):Prop:=n=0∨∃ g o,a=some ⟨g,o,none⟩∧n≤c∧c≤maxLen∧LI W g o n X
theorem SI.below {W W':World}{a:Option Addr}{n c:Nat}{X:Nat→ByteArray}(h:SI W a n c X)(hb:Below W.heap.size W W'):SI W' a n c X:=by
 rcases h with h|⟨g,o,h1,h2,h3,h4⟩
 · exact Or.inl h
 · exact Or.inr ⟨g,o,h1,h2,h3,h4.below hb⟩
theorem z0j:∃ i0:TypeInfo,Tryz.prog.info? 24=some i0∧i0.zero=some (.agg #[.string ⟨#[]⟩,.string ⟨#[]⟩])∧i0.size=2∧i0.bytes=32:=by
 have h1:(Tryz.prog.info? 24).map (fun i=>i.zero)=some (some (.agg #[.string ⟨#[]⟩,.string ⟨#[]⟩])):=by kernel_rfl
 have h2:(Tryz.prog.info? 24).map (fun i=>i.size)=some 2:=by kernel_rfl
 have h3:(Tryz.prog.info? 24).map (fun i=>i.bytes)=some 32:=by kernel_rfl
 cases h:Tryz.prog.info? 24 with
 | none=>rw[h]at h1;cases h1
 | some i =>
   rw[h]at h1 h2 h3;exact⟨i,rfl,by simpa using h1,by simpa using h2,by simpa using h3⟩
theorem z5a (a:Option Addr)(n c:Nat)(X:Nat→ByteArray)(hn:n≤1600)(w:World)(hl:SI w a n c X):Calls Tryz.prog 20 #[.slice a n c] w fun e w'=>∃ a' c',e=.returned (.slice a' n c')∧SI w' a' n c' X∧Below w.heap.size w w':=by
 obtain⟨i0,hi,hz0,hz1,hz2⟩:=z0j;have q0:∀ (w:World) (a:Option Addr) (n c n' c':Nat),(binOp .eql 32 (.slice a n c) (.slice none n' c')).run Tryz.prog w=.ok (.bool a.isNone) w:=fun w a n c n' c'=>Lib.run_eql_slice_nil w _ _ a n c n' c' underlying32
 cases a with
 | none =>
   rcases hl with rfl|⟨g,o,h,_⟩
   · go_enter func20,ntmps20
     go_wp2;go_ret
     exact⟨none,0,rfl,Or.inl rfl,Below.refl _ _⟩
   · cases h
 | some a =>
   have A:Hid (n=0∨LI w a.block a.off n X∧a=⟨a.block,a.off,none⟩):=hid (by
    rcases hl with h|⟨g,o,h,_,_,h4⟩
    · exact Or.inl h
    · obtain rfl:=Option.some.inj h
      exact Or.inr ⟨h4,rfl⟩)
   clear hl;go_enter func20,ntmps20
   go_wp2_with (at_builtin;refine wpList_append_own _ rfl _ _ 32 rfl w.heap.size 24 i0 (.agg #[.string ⟨#[]⟩,.string ⟨#[]⟩]) 2 32 underlying32 hi hz0 hz1 hz2 rfl (by decide) _ _ _ rfl (World.ownsRow_made w #[] 0 (Nat.le_refl _) (Nat.zero_le _) rfl) a n c (LJ n X) rfl ?qc1 ?qc2 ?qc3 ?qc4 ?qc5 ?qc6 ?_)
   case qc1=>simp[LJ]
   case qc2 =>
    intro j u hj
    have hjn:j<n*2:=by
        have:=(List.getElem?_eq_some_iff.1 hj).1;simpa [LJ] using this
    rcases A.o with h|⟨h,e⟩
    · omega
    · rw[e,Addr.add_lit]
      refine Lib.cell?_alloc_some _ ?_;rw[h.2 j hjn];simpa [LJ,hjn] using hj
   case qc3=>intro u hu;obtain⟨x,_,rfl⟩:=List.mem_map.1 hu;rfl
   case qc4=>unfold maxLen;omega
   case qc5=>omega
   case qc6=>simp
   intro v' w1 hown hgrow hnil;go_wp2;go_ret
   have hB:Below w.heap.size w w1:=((Below.refl _ w).alloc (Nat.le_refl _) _).grown hgrow (by simp) (by intro k hk;simp[Value.ownBlock]at hk;omega);obtain⟨h1,h2⟩:=hown;rcases h2 with⟨rfl,h3⟩|⟨g,cap,cur,rfl,hg,hh,hn2,hc,hs,ht⟩
   · obtain rfl:n=0:=by omega
     exact⟨none,0,by simp,Or.inl rfl,hB⟩
   · refine⟨_,cap,rfl,?_,hB⟩
     refine Or.inr ⟨g,0,rfl,hn2,hc,(Array.getElem?_eq_some_iff.1 hh).1,fun j hj=>?_⟩;have hx:(LJ n X)[j]? = some (.string (X j)):=by simp[LJ,hj]
     rw[← ht,List.getElem?_take,if_pos hj]at hx;simp only[World.cell?,hh];simpa using hx
def HuV (V:Nat→Bool) (q:Nat→Rat) (n:Nat):Value:=if (List.range n).all V then .tuple #[Vq (exOf q (2*n-1)).1 (exOf q (2*n-1)).2,.int .i64 0] else .tuple #[.agg #[.string ⟨#[]⟩,.string ⟨#[]⟩],.int .i64 1]
theorem z3B {V:Nat→Bool}{q:Nat→Rat}{n i:Nat}(hi:i<n)(h:V i=false):HuV V q n=.tuple #[.agg #[.string ⟨#[]⟩,.string ⟨#[]⟩],.int .i64 1]:=by
 unfold HuV
 rw[if_neg];rw[List.all_eq_true];intro h2;have:=h2 i (List.mem_range.2 hi);rw[h]at this;cases this
theorem z1c {V:Nat→Bool}{q:Nat→Rat}{n:Nat}(h:∀ j,j<n→V j=true):HuV V q n=.tuple #[Vq (exOf q (2*n-1)).1 (exOf q (2*n-1)).2,.int .i64 0]:=by
 unfold HuV
 rw[if_pos];rw[List.all_eq_true];intro j hj;exact h j (List.mem_range.1 hj)
theorem z5d {V:Nat→Bool}{q:Nat→Rat}{X:Nat→ByteArray}{n:Nat}{P:Rat→Prop}(h:∀ j,j<n→V j=true)(hq:∀ i,i<n→V i=true→X (i*2)=Sq (q (2*i))∧X (i*2+1)=Sq (q (2*i+1))∧P (q (2*i))∧P (q (2*i+1)))(j:Nat)(hj:j<2*n):P (q j):=by
 obtain⟨_,_,h1,h2⟩:=hq (j / 2) (by omega) (h _ (by omega));rcases (by omega:2*(j / 2)=j∨2*(j / 2)+1=j) with e|e
 · rwa [e]at h1
 · rwa [e]at h2
theorem z4e (a:Option Addr)(n c:Nat)(hn:n=0)(w:World):CR 19 #[.slice a n c] w (.tuple #[.agg #[.string ⟨#[]⟩,.string ⟨#[]⟩],.int .i64 9]):=by
 have e0:(n:Int)=0:=by omega
 clear hn;go_enter func19,ntmps19
 go_upto_region 1 with fail
 refine az w [(#[.string ⟨#[]⟩,.string ⟨#[]⟩],24)] rfl ?_;rintro W0 ⟨k1,hb⟩;have ww:=hid (show Below w.heap.size w W0 from hb);have K1:=hid k1;clear k1 hb;obtain ⟨oM,oV⟩:=av K1.o rfl rfl;obtain ⟨kz,kM⟩:=bF K1.o;go_wp2;exact bodyPost_ret (v:=.tuple #[.agg #[.string ⟨#[]⟩,.string ⟨#[]⟩],.int .i64 9]) (by simp[results,results19,go_sem,oM,oV]) rfl ⟨rfl,ay (l:=[.string ⟨#[]⟩,.string ⟨#[]⟩]) (i:=0) (by omega) ww.o⟩
theorem z0l (a:Option Addr)(n c:Nat)(hn:1024<n)(w:World):CR 19 #[.slice a n c] w (.tuple #[.agg #[.string ⟨#[]⟩,.string ⟨#[]⟩],.int .i64 8]):=by
 have e0:¬ (n:Int)=0:=by omega
 have e1:(1024:Int)<(n:Int):=by omega
 clear hn;go_enter func19,ntmps19
 go_upto_region 1 with fail
 refine az w [(#[.string ⟨#[]⟩,.string ⟨#[]⟩],24)] rfl ?_;rintro W0 ⟨k1,hb⟩;have ww:=hid (show Below w.heap.size w W0 from hb);have K1:=hid k1;clear k1 hb;obtain ⟨oM,oV⟩:=av K1.o rfl rfl;obtain ⟨kz,kM⟩:=bF K1.o;go_wp2;exact bodyPost_ret (v:=.tuple #[.agg #[.string ⟨#[]⟩,.string ⟨#[]⟩],.int .i64 8]) (by simp[results,results19,go_sem,oM,oV]) rfl ⟨rfl,ay (l:=[.string ⟨#[]⟩,.string ⟨#[]⟩]) (i:=0) (by omega) ww.o⟩
theorem z0m (g o n c:Nat)(X:Nat→ByteArray)(q:Nat→Rat)(V:Nat→Bool)(v:Value)(hv:HuV V q n=v)(hn1:1≤n)(hn2:n≤1024)(hnc:n≤c)(w:World)(hl:La w)(hL:LI w g o n X)
 (hV:∀ i,i<n→CL 27 #[.agg #[.string (X (i*2)),.string (X (i*2+1))]] (.bool (V i)))
 (hq:∀ i,i<n→V i=true→X (i*2)=Sq (q (2*i))∧X (i*2+1)=Sq (q (2*i+1))∧aR (q (2*i))∧aR (q (2*i+1))) :
 Calls Tryz.prog 19 #[.slice (some ⟨g,o,none⟩) n c] w fun e w'=>e=.returned v∧Below w.heap.size w w':=by
 obtain⟨i0,hi,hz0,hz1,hz2⟩:=xe;obtain⟨w0,hw0⟩:∃ w0:World,w0=w.alloc (.cells #[.string ⟨#[]⟩,.string ⟨#[]⟩] 24):=⟨_,rfl⟩;have hs0:w0.heap.size=w.heap.size+1:=by rw[hw0];simp
 have hb0:Below w.heap.size w w0:=by rw[hw0];exact bZ w _
 have hr0:w0.cell? ⟨w.heap.size,0,none⟩=some (.string ⟨#[]⟩)∧w0.cell? ⟨w.heap.size,1,none⟩=some (.string ⟨#[]⟩)∧w0.frozen? ⟨w.heap.size,0,none⟩=false∧w0.frozen? ⟨w.heap.size,1,none⟩=false:=by
  rw[hw0];exact⟨(aC rfl).trans rfl,(aC rfl).trans rfl,aX rfl,aX rfl⟩
 obtain ⟨HQ,HV,HZ⟩:=ak hq hV hv;have KB:=hid (show ∀ W:World,Below w0.heap.size w0 W→Below w.heap.size w W from fun W hB=>hb0.trans (hB.mono (by omega)));have HC:=hid (show ∀ W:World,Below w0.heap.size w0 W→LI W g o n X from fun W hB=>hL.below (KB.o W hB))
 have KR:=hid (show ∀ W:World,Below w0.heap.size w0 W→(W.cell? ⟨w.heap.size,0,none⟩=some (.string ⟨#[]⟩)∧W.cell? ⟨w.heap.size,1,none⟩=some (.string ⟨#[]⟩)∧W.frozen? ⟨w.heap.size,0,none⟩=false∧W.frozen? ⟨w.heap.size,1,none⟩=false) from fun W hB=>by
  obtain⟨c0,c1,f0,f1⟩:=hr0
  exact⟨(hB.cell (p:=⟨w.heap.size,0,none⟩) (by show w.heap.size<_;omega)).trans c0,(hB.cell (p:=⟨w.heap.size,1,none⟩) (by show w.heap.size<_;omega)).trans c1,(hB.frozen (p:=⟨w.heap.size,0,none⟩) (by show w.heap.size<_;omega)).trans f0,(hB.frozen (p:=⟨w.heap.size,1,none⟩) (by show w.heap.size<_;omega)).trans f1⟩)
 have HL:=hid (show ∀ W:World,Below w0.heap.size w0 W→La W from fun W hB=>hl.on (KB.o W hB));have KZ:=hid (show ∀ W:World,Below w0.heap.size w0 W→w.heap.size+1≤W.heap.size from fun W hB=>by have:=hB.size;omega);obtain ⟨F0,HS,HW0⟩:=ak (Below.refl w0.heap.size w0) hs0 hw0;have ne0:¬ (n:Int)=0:=by omega
 have ne1:¬ (1024:Int)<(n:Int):=by omega
 have nc:(n:Int)≤(c:Int):=by omega
 clear hq hv hV hL hb0 hr0 hl hs0 hw0;go_enter func19,ntmps19
 go_wp2;rw[← HW0.o];go_loopw [4,6,17] (fun v _ ii wr=>∃ (i:Nat),i≤n∧ii=.int .i64 (i:Int)∧Hid (∀ j,j<i→V j=true)∧Hid (wr.ownsRow w0.heap.size 22 1 v (2*i) (hcells q (2*i)))∧Hid (Below w0.heap.size w0 wr)) (fun _ _ ii _=>n-(intOf ii).toNat)
 case atStart=>exact⟨0,by omega,rfl,hid (fun j hj=>by omega),hid (World.ownsRow_nil w0 w0.heap.size 22 1),F0⟩
 case round =>
  obtain⟨i,hin,rfl,HA,hO,hF⟩:=hrel;have hi2:(i:Int)≤1024:=by omega
  have hi3:(0:Int)≤(i:Int):=by omega
  have wi:IntKind.i64.wrap ((i:Int)+1)=(i:Int)+1:=IntWalk.i64_in _ (by omega);by_cases hlt:i<n
  · obtain⟨c0,c1⟩:=(HC.o _ hF.o).at hlt
    obtain ⟨CV0,FQ0,HNX⟩:=ak (HV.o i hlt) (HQ.o i hlt) (pU q i);have eX:=hid (show ∀ b,V i=b→V i=b from fun b h=>h);generalize hx:X (i*2)=x at *;generalize hy:X (i*2+1)=y at *;clear hx hy eX;have hlt1:(i:Int)<(n:Int):=by omega
    go_wp2_with fail
    obtain ⟨F1,O1⟩:=aB (hF.o.alloc hF.o.size (.cells #[.string x,.string y] 24)) (hO.o.alloc (.cells #[.string x,.string y] 24));refine(CV0.o _ (HL.o _ F1.o)).mono ?_;rintro e w1 ⟨rfl,hb⟩;obtain ⟨V2,F2,O2⟩:=ak ((xG wr x y).mono hb) (ai F1.o hb) (own_below O1.o hb);clear hb c0 c1 F1 O1 CV0
    cases hVi:V i with
    | false =>
      obtain rfl:v=.tuple #[.agg #[.string ⟨#[]⟩,.string ⟨#[]⟩],.int .i64 1]:=by rw[← HZ.o];exact z3B hlt hVi
      clear HZ;obtain⟨m0,m1,n0,n1⟩:=KR.o _ F2.o;have hz:=KZ.o _ F2.o;go_wp2;refine bodyPost_ret (v:=.tuple #[.agg #[.string ⟨#[]⟩,.string ⟨#[]⟩],.int .i64 1]) (by simp[results,results19,go_sem,m0,m1]) rfl ⟨rfl,?_⟩;exact((KB.o _ F2.o).setCell (p:=⟨w.heap.size,0,none⟩) (Nat.le_refl _) _).setCell (p:=⟨w.heap.size,1,none⟩) (Nat.le_refl _) _
    | true =>
      obtain⟨rfl,rfl,FX,FY⟩:=FQ0.o hVi;clear FQ0
      have HA1:=hid (show ∀ j,j<i+1→V j=true from fun j hj=>by
       by_cases h:j=i
       · rw[h];exact hVi
       · exact HA.o j (by omega))
      obtain ⟨FX,FY⟩:=aB FX FY;generalize q (2*i)=xq at *;generalize q (2*i+1)=yq at *;obtain⟨_,c0,c1⟩:=V2.o;go_wp2_with (at_builtin;refine wpList_append_own _ rfl _ _ 71 rfl w0.heap.size 22 i0 (.string ⟨#[]⟩) 1 16 underlying71 hi hz0 hz1 hz2 rfl (by decide) _ (2*i) (hcells q (2*i)) rfl (O2.o.alloc _) ⟨w1.heap.size,0,none⟩ 2 2 [.string (Sq xq),.string (Sq yq)] rfl rfl (oW _ _ _ _) (by intro u hu;simp at hu;rcases hu with rfl|rfl<;>rfl) (by unfold maxLen;omega) (by omega) (by have:=F2.o.size;simp;omega) ?_)
      intro v' w2 hown hgrow _;rw[HNX.o]at hown;have F3:=hid ((F2.o.alloc F2.o.size _).grown hgrow (by have:=F2.o.size;simp;omega) (fun k hk=>(O2.o.lt k hk).1));have O3:=hid hown;clear hown hgrow;go_wp2;go_roundw
      case rel=>exact⟨i+1,by omega,by go_num,HA1,O3,F3⟩
      case measure=>simp[intOf];omega
  · have hge:decide ((i:Int)<(n:Int))=false:=by rw[decide_eq_false_iff_not];omega
    obtain rfl:i=n:=by omega
    obtain rfl:v=_:=HZ.o.symm.trans (z1c HA.o);clear HZ;have HQ:=hid (show ∀ j,j<2*i→aR (q j) from z5d HA.o (fun j hj=>HQ.o j hj));obtain⟨g1,cap,rfl,hg1,hg2,hcap,hcs⟩:=xn hO.o (by omega);have CE:=hid (gu g1 (2*i) cap q (by omega) (by omega) hcap wr (HL.o _ hF.o) hg2 HQ.o (fun j hj=>hcs j _ (pV q hj)));clear hO hcs;go_wp2_with fail
    refine CE.o.mono ?_;rintro e w1 ⟨rfl,hb⟩;have F1:=hid (ai hF.o hb);clear hb;obtain⟨m0,m1,n0,n1⟩:=KR.o _ F1.o;go_wp2;refine bodyPost_ret (v:=.tuple #[.agg #[.string (Sq (exOf q (2*i-1)).1),.string (Sq (exOf q (2*i-1)).2)],.int .i64 0]) (by simp[results,results19,go_sem,m0,m1]) rfl ⟨rfl,?_⟩;exact((KB.o _ F1.o).setCell (p:=⟨w.heap.size,0,none⟩) (Nat.le_refl _) _).setCell (p:=⟨w.heap.size,1,none⟩) (Nat.le_refl _) _
open Go.Lib (hid)
set_option linter.unusedVariables false
def gLo (x:Nat→Rat):Nat→Rat
 | 0=>x 0
 | m+1=>lstQ (gLo x m) (x m)
def gHi (x:Nat→Rat):Nat→Rat
 | 0=>x 0
 | m+1=>mstQ (gHi x m) (x m)
theorem LI.first {W:World}{g o n:Nat}{X:Nat→ByteArray}(h:LI W g o n X)(hn:1≤n):W.cell? ⟨g,o,none⟩=some (.string (X 0))∧W.cell? ⟨g,o+1,none⟩=some (.string (X 1)):=by
 have h0:=h.2 0 (by omega);have h1:=h.2 1 (by omega);exact⟨h0,h1⟩
theorem z4j (a:Option Addr)(n c:Nat)(hn:n=0)(w:World):CR 21 #[.slice a n c] w (.tuple #[.agg #[.string ⟨#[]⟩,.string ⟨#[]⟩],.int .i64 9]):=by
 have e0:(n:Int)=0:=by omega
 clear hn;go_enter func21,ntmps21
 go_upto_region 1 with fail
 refine az w [(#[.string ⟨#[]⟩,.string ⟨#[]⟩],24)] rfl ?_;rintro W0 ⟨k1,hb⟩;have ww:=hid (show Below w.heap.size w W0 from hb);have K2:=hid k1;clear k1 hb;obtain ⟨ru,rM⟩:=av K2.o rfl rfl;obtain ⟨mf,mi⟩:=bF K2.o;go_wp2;exact bodyPost_ret (v:=.tuple #[.agg #[.string ⟨#[]⟩,.string ⟨#[]⟩],.int .i64 9]) (by simp[results,results21,go_sem,ru,rM]) rfl ⟨rfl,ay (l:=[.string ⟨#[]⟩,.string ⟨#[]⟩]) (i:=0) (by omega) ww.o⟩
theorem z0s (a:Option Addr)(n c:Nat)(hn:1024<n)(w:World):CR 21 #[.slice a n c] w (.tuple #[.agg #[.string ⟨#[]⟩,.string ⟨#[]⟩],.int .i64 8]):=by
 have e0:¬ (n:Int)=0:=by omega
 have e1:(1024:Int)<(n:Int):=by omega
 clear hn;go_enter func21,ntmps21
 go_upto_region 1 with fail
 refine az w [(#[.string ⟨#[]⟩,.string ⟨#[]⟩],24)] rfl ?_;rintro W0 ⟨k1,hb⟩;have ww:=hid (show Below w.heap.size w W0 from hb);have K2:=hid k1;clear k1 hb;obtain ⟨ru,rM⟩:=av K2.o rfl rfl;obtain ⟨mf,mi⟩:=bF K2.o;go_wp2;exact bodyPost_ret (v:=.tuple #[.agg #[.string ⟨#[]⟩,.string ⟨#[]⟩],.int .i64 8]) (by simp[results,results21,go_sem,ru,rM]) rfl ⟨rfl,ay (l:=[.string ⟨#[]⟩,.string ⟨#[]⟩]) (i:=0) (by omega) ww.o⟩
theorem z0t (g o n c:Nat)(X:Nat→ByteArray)(V:Nat→Bool)(xa xb:Nat→Rat)(q:Nat→Rat)(ra rb:Rat)(v:Value)(hv:HuV V q n=v)(hn1:1≤n)(hn2:n≤1024)(w:World)(hl:LI w g o n X)(hr:ra=xa 0∧rb=xb 0)
 (h1:KIb 46 (.agg #[.string (X 0),.string (X 1)]) ra rb (V 0)) (hx:∀ i,i<n→KIb 46 (.agg #[.string (X (i*2)),.string (X (i*2+1))]) (xa i) (xb i) (V i))
 (hj:∀ i,i<n→(∀ j,j<i+1→V j=true)→KII 47 (gLo xa i) (gHi xb i) (xa i) (xb i) (lstQ (gLo xa i) (xa i)) (mstQ (gHi xb i) (xb i)))
 (he:(∀ j,j<n→V j=true)→(exOf q (2*n-1)).1=gLo xa n∧(exOf q (2*n-1)).2=gHi xb n) (ht:(∀ j,j<n→V j=true)→KI2 34 (gLo xa n) (gHi xb n) (.agg #[.string (Sq (gLo xa n)),.string (Sq (gHi xb n))])) :
 Calls Tryz.prog 21 #[.slice (some ⟨g,o,none⟩) n c] w fun e w'=>e=.returned v∧Below w.heap.size w w':=by
 have e0:¬ (n:Int)=0:=by omega
 have e1:¬ (1024:Int)<(n:Int):=by omega
 obtain ⟨HL,HR,C1,HX,HJ,HE,HT,HV⟩:=fw hl hr h1 hx hj he ht hv;clear hl hr h1 hx hj he ht hv;go_enter func21,ntmps21
 go_upto_region 1 with fail
 refine az w [(#[.string ⟨#[]⟩,.string ⟨#[]⟩],24)] rfl ?_;rintro W0 ⟨k1,hb⟩;have ww:=hid (show Below w.heap.size w W0 from hb);have K1:=hid k1;clear k1 hb;obtain⟨c0,c1⟩:=(HL.o.below ww.o).first hn1;go_wp2_with fail
 with_reducible refine(C1.o _).mono ?_
 rintro e W1 ⟨r9,rq,rfl,l5,lg,hb⟩;have K1:=hid (K1.o.below hb);have wu:=hbt ww hb;have RA:=hid l5;have RB:=hid lg;clear hb l5 lg;go_upto_region 6 with fail
 refine az W1 [(#[.bool r9.b,.slice r9.a r9.n r9.c,.slice r9.e r9.m r9.d,.bool rq.b,.slice rq.a rq.n rq.c,.slice rq.e rq.m rq.d],56)] rfl ?_;have L1:=K1.o.lt;have L2:=wu.o.size;rintro W2 ⟨k2,hb⟩;have hb:Below W1.heap.size W1 W2:=hb;obtain ⟨K1,RA,RB⟩:=bR hb K1 RA RB;have sw:=hbt wu hb;have K2:=hid k2;clear k2 hb c0 c1;go_wp2;go_loopw [5,6] (fun ok ii wr=>∃ (i:Nat) (bo:Bool) (ql qh:QS) (lo hi:Rat),i≤n∧ok=.bool bo∧ii=.int .i64 (i:Int)∧Hid (bo=true→(∀ j,j<i→V j=true)∧V 0=true∧lo=gLo xa i∧hi=gHi xb i)∧Hid (bo=false→∃ j,j<n∧V j=false)∧Hid (Below w.heap.size w wr)∧Hid (SBk wr (w.heap.size) #[.string ⟨#[]⟩,.string ⟨#[]⟩] 24)∧Hid (SBk wr (W1.heap.size) #[.bool ql.b,.slice ql.a ql.n ql.c,.slice ql.e ql.m ql.d,.bool qh.b,.slice qh.a qh.n qh.c,.slice qh.e qh.m qh.d] 56)∧Hid (FQ wr ql lo)∧Hid (FQ wr qh hi)) (fun _ ii _=>n-(intOf ii).toNat)
 case atStart=>exact⟨0,V 0,r9,rq,ra,rb,by omega,rfl,rfl,hid (fun h=>⟨fun j hj=>by omega,h,HR.o.1,HR.o.2⟩),hid (fun h=>⟨0,by omega,h⟩),sw,K1,K2,RA,RB⟩
 case round =>
  obtain⟨i,bo,ql,qh,lo,hi,hin,rfl,rfl,HA,HN,ww,K2,K4,RL,RH⟩:=hrel;have hi0:(0:Int)≤(i:Int):=by omega
  have wi:IntKind.i64.wrap ((i:Int)+1)=(i:Int)+1:=IntWalk.i64_in _ (by omega);by_cases hlt:i<n
  · have hlt1:(i:Int)<(n:Int):=by omega
    have CF:=hid (HX.o i hlt);have CJ:=hid (fun h=>HJ.o i hlt h);obtain⟨c0,c1⟩:=(HL.o.below ww.o).at hlt;generalize X (i*2)=x1 at *;generalize X (i*2+1)=x2 at *;generalize hya:xa i=ya at *;generalize hyb:xb i=yb at *;obtain ⟨HYA,HYB⟩:=aB hya hyb;clear hya hyb
    cases hvi:V i with
    | false =>
      rw[hvi]at CF;have HV1:=hid (show ∃ j,j<n∧V j=false from⟨i,hlt,hvi⟩);clear hvi
      cases bo with
      | false =>
        go_wp2_with fail
        with_reducible refine(CF.o _).mono ?_
        rintro e V1 ⟨u6,w9,rfl,si,sj,hb⟩;obtain ⟨K2,K4,RL,RH⟩:=bB hb K2 K4 RL RH;have wu:=hbt ww hb;obtain ⟨RX,RY⟩:=aB si sj;clear hb si sj;go_upto_region 10 with fail
        refine az V1 [(#[.bool u6.b,.slice u6.a u6.n u6.c,.slice u6.e u6.m u6.d,.bool w9.b,.slice w9.a w9.n w9.c,.slice w9.e w9.m w9.d],56)] rfl ?_;have L3:=K2.o.lt;have L4:=K4.o.lt;have L5:=wu.o.size;rintro V2 ⟨k61,hb⟩;have hb:Below V1.heap.size V1 V2:=hb;obtain ⟨K2,K4,RL,RH⟩:=bB hb K2 K4 RL RH;have sw:=hbt wu hb;have K61:=hid k61;clear k61 hb;go_wp2;go_roundw
        case rel=>exact⟨i+1,false,ql,qh,lo,hi,by omega,by first|rfl|simp,by go_num,hid (fun h=>nomatch h),hid (fun _=>HV1.o),sw,K2,K4,RL,RH⟩
        case measure=>simp[intOf];omega
      | true =>
        go_wp2_with fail
        with_reducible refine(CF.o _).mono ?_
        rintro e V1 ⟨u6,w9,rfl,si,sj,hb⟩;obtain ⟨K2,K4,RL,RH⟩:=bB hb K2 K4 RL RH;have wu:=hbt ww hb;obtain ⟨RX,RY⟩:=aB si sj;clear hb si sj;go_upto_region 10 with fail
        refine az V1 [(#[.bool u6.b,.slice u6.a u6.n u6.c,.slice u6.e u6.m u6.d,.bool w9.b,.slice w9.a w9.n w9.c,.slice w9.e w9.m w9.d],56)] rfl ?_;have L3:=K2.o.lt;have L4:=K4.o.lt;have L5:=wu.o.size;rintro V2 ⟨k61,hb⟩;have hb:Below V1.heap.size V1 V2:=hb;obtain ⟨K2,K4,RL,RH⟩:=bB hb K2 K4 RL RH;have sw:=hbt wu hb;have K61:=hid k61;clear k61 hb;go_wp2;go_roundw
        case rel=>exact⟨i+1,false,ql,qh,lo,hi,by omega,by first|rfl|simp,by go_num,hid (fun h=>nomatch h),hid (fun _=>HV1.o),sw,K2,K4,RL,RH⟩
        case measure=>simp[intOf];omega
    | true =>
      rw[hvi]at CF;have HV1:=hid hvi;clear hvi
      cases bo with
      | false =>
        have HV2:=hid (HN.o rfl);go_wp2_with fail
        with_reducible refine(CF.o _).mono ?_
        rintro e V1 ⟨u6,w9,rfl,si,sj,hb⟩;obtain ⟨K2,K4,RL,RH⟩:=bB hb K2 K4 RL RH;have wu:=hbt ww hb;obtain ⟨RX,RY⟩:=aB si sj;clear hb si sj;go_upto_region 10 with fail
        refine az V1 [(#[.bool u6.b,.slice u6.a u6.n u6.c,.slice u6.e u6.m u6.d,.bool w9.b,.slice w9.a w9.n w9.c,.slice w9.e w9.m w9.d],56)] rfl ?_;have L3:=K2.o.lt;have L4:=K4.o.lt;have L5:=wu.o.size;rintro V2 ⟨k61,hb⟩;have hb:Below V1.heap.size V1 V2:=hb;obtain ⟨K2,K4,RL,RH⟩:=bB hb K2 K4 RL RH;have sw:=hbt wu hb;have K61:=hid k61;clear k61 hb;go_wp2;go_roundw
        case rel=>exact⟨i+1,false,ql,qh,lo,hi,by omega,by first|rfl|simp,by go_num,hid (fun h=>nomatch h),hid (fun _=>HV2.o),sw,K2,K4,RL,RH⟩
        case measure=>simp[intOf];omega
      | true =>
        obtain⟨hA1,hA2,rfl,rfl⟩:=HA.o rfl;have HA2:=hid hA2
        have HA1:=hid (show ∀ j,j<i+1→V j=true from fun j hj=>by
         by_cases h:j=i
         · rw[h];exact HV1.o
         · exact hA1 j (by omega))
        have CJ:=hid (CJ.o HA1.o);clear hA1 hA2 HA;have EL:=hid (show gLo xa (i+1)=lstQ (gLo xa i) ya by rw[← HYA.o];rfl);have EH:=hid (show gHi xb (i+1)=mstQ (gHi xb i) yb by rw[← HYB.o];rfl);rw[← EL.o,← EH.o]at CJ;clear EL EH;generalize hlj:gLo xa (i+1)=lj at *;generalize hhj:gHi xb (i+1)=hj at *;have EX:=hid (show lj=gLo xa (i+1)∧hj=gHi xb (i+1) from⟨hlj.symm,hhj.symm⟩);clear hlj hhj;generalize gLo xa i=lo at *;generalize gHi xb i=hi at *;go_wp2_with fail
        with_reducible refine(CF.o _).mono ?_
        rintro e V1 ⟨u6,w9,rfl,si,sj,hb⟩;obtain ⟨K2,K4,RL,RH⟩:=bB hb K2 K4 RL RH;have wu:=hbt ww hb;obtain ⟨RX,RY⟩:=aB si sj;clear hb si sj;go_upto_region 10 with fail
        refine az V1 [(#[.bool u6.b,.slice u6.a u6.n u6.c,.slice u6.e u6.m u6.d,.bool w9.b,.slice w9.a w9.n w9.c,.slice w9.e w9.m w9.d],56)] rfl ?_;have L3:=K2.o.lt;have L4:=K4.o.lt;have L5:=wu.o.size;rintro V2 ⟨k61,hb⟩;have hb:Below V1.heap.size V1 V2:=hb;obtain ⟨K2,K4,RL,RH,RX,RY⟩:=fZ hb K2 K4 RL RH RX RY;have sw:=hbt wu hb;have K61:=hid k61;clear k61 hb;obtain ⟨rV,p8,p9,pq,pu,ol⟩:=bG K4.o rfl rfl rfl rfl rfl rfl;obtain ⟨kV,gy,gF,fq,fQ,ed⟩:=bG K61.o rfl rfl rfl rfl rfl rfl;go_wp2_with fail
        with_reducible refine(CJ.o _ _ _ _ _ RL.o RH.o RX.o RY.o).mono ?_
        rintro e V3 ⟨wm,wo,rfl,lm,lv,hb⟩;clear rV p8 p9 pq pu ol kV gy gF fq fQ ed;obtain ⟨K2,K4,K61,RL,RH,RX,RY⟩:=fA hb K2 K4 K61 RL RH RX RY;have d9:=hbt sw hb;obtain ⟨RLJ,RHJ⟩:=aB lm lv;clear hb lm lv;obtain ⟨rV,p8,p9,pq,pu,ol⟩:=bG K4.o rfl rfl rfl rfl rfl rfl;obtain ⟨dn,dx,dz,dX,dY,cu⟩:=dZ K4.o;go_upto_region 8 with fail
        clear rV dn p8 dx p9 dz pq dX pu dY ol cu
        refine z1j (fun V=>Below w.heap.size w V∧SBk V (w.heap.size) #[.string ⟨#[]⟩,.string ⟨#[]⟩] 24∧SBk V (W1.heap.size) #[.bool wm.b,.slice wm.a wm.n wm.c,.slice wm.e wm.m wm.d,.bool wo.b,.slice wo.a wo.n wo.c,.slice wo.e wo.m wo.d] 56∧SBk V (V1.heap.size) #[.bool u6.b,.slice u6.a u6.n u6.c,.slice u6.e u6.m u6.d,.bool w9.b,.slice w9.a w9.n w9.c,.slice w9.e w9.m w9.d] 56∧FQ V ql lo∧FQ V qh hi∧FQ V u6 ya∧FQ V w9 yb∧FQ V wm lj∧FQ V wo hj) (by
         rw[← iC];have s0:∀ {q':QS} {x':Rat},FQ V3 q' x'→FQ (storeAll V3 (W1.heap.size) 0 [.bool wm.b,.slice wm.a wm.n wm.c,.slice wm.e wm.m wm.d,.bool wo.b,.slice wo.a wo.n wo.c,.slice wo.e wo.m wo.d]) q' x':=fun h'=>di _ 0 h' K4.o (by simp[bL]) (by simp[bA]);have o0:∀ {g':Nat} {cs':Array Value} {T':TypeId},g'≠W1.heap.size→SBk V3 g' cs' T'→SBk (storeAll V3 (W1.heap.size) 0 [.bool wm.b,.slice wm.a wm.n wm.c,.slice wm.e wm.m wm.d,.bool wo.b,.slice wo.a wo.n wo.c,.slice wo.e wo.m wo.d]) g' cs' T':=fun hg' h'=>aZ hg' _ 0 h'
         exact⟨(ay (l:=[.bool wm.b,.slice wm.a wm.n wm.c,.slice wm.e wm.m wm.d,.bool wo.b,.slice wo.a wo.n wo.c,.slice wo.e wo.m wo.d]) (i:=0) (by omega) d9.o),(o0 (by omega) K2.o),(bY K4.o),(o0 (by omega) K61.o),(s0 RL.o),(s0 RH.o),(s0 RX.o),(s0 RY.o),(s0 RLJ.o),(s0 RHJ.o)⟩) ?_
        rintro V4 ⟨hb,z0,z1,z2,z3,z4,z5,z6,z7,z8⟩;obtain ⟨cO,K2,K4,K61,RL,RH,RX,RY,RLJ⟩:=dG hb z0 z1 z2 z3 z4 z5 z6 z7;have RHJ:=hid z8;clear hb z0 z1 z2 z3 z4 z5 z6 z7 z8;go_wp2;go_roundw
        case rel=>exact⟨i+1,true,wm,wo,lj,hj,by omega,by first|rfl|simp,by go_num,hid (fun _=>⟨HA1.o,HA2.o,EX.o.1,EX.o.2⟩),hid (fun h=>nomatch h),cO,K2,K4,RLJ,RHJ⟩
        case measure=>simp[intOf];omega
  · have hge:decide ((i:Int)<(n:Int))=false:=by rw[decide_eq_false_iff_not];omega
    obtain rfl:i=n:=by omega
    have hv:=HV.o;clear HV
    cases bo with
    | false =>
      obtain⟨j,hj,hvj⟩:=HN.o rfl;rw[z3B hj hvj]at hv;subst hv;obtain ⟨ru,rM⟩:=av K2.o rfl rfl;obtain ⟨mf,mi⟩:=bF K2.o;go_wp2;exact bodyPost_ret (v:=.tuple #[.agg #[.string ⟨#[]⟩,.string ⟨#[]⟩],.int .i64 1]) (by simp[results,results21,go_sem,ru,rM]) rfl ⟨rfl,(ay (l:=[.string ⟨#[]⟩,.string ⟨#[]⟩]) (i:=0) (by omega) ww.o)⟩
    | true =>
      obtain⟨hA1,hA2,rfl,rfl⟩:=HA.o rfl;rw[z1c hA1,(HE.o hA1).1,(HE.o hA1).2]at hv;have CT:=hid (HT.o hA1);clear HA hA1 hA2;generalize gLo xa i=lo at *;generalize gHi xb i=hi at *;obtain⟨slo,hslo⟩:∃ s,s=Sq lo:=⟨_,rfl⟩;obtain⟨shi,hshi⟩:∃ s,s=Sq hi:=⟨_,rfl⟩;rw[← hslo,← hshi]at CT;unfold Vq at hv
      rw[← hslo,← hshi]at hv;clear hslo hshi;subst hv;obtain ⟨rV,p8,p9,pq,pu,ol⟩:=bG K4.o rfl rfl rfl rfl rfl rfl;go_wp2_with fail
      with_reducible refine(CT.o _ _ _ RL.o RH.o).mono ?_
      rintro e V1 ⟨rfl,hb⟩;clear rV p8 p9 pq pu ol;have K2:=hid (K2.o.below hb);have wu:=hbt ww hb;clear hb;obtain ⟨ru,rM⟩:=av K2.o rfl rfl;obtain ⟨mf,mi⟩:=bF K2.o;go_wp2;exact bodyPost_ret (v:=.tuple #[.agg #[.string slo,.string shi],.int .i64 0]) (by simp[results,results21,go_sem,ru,rM]) rfl ⟨rfl,(ay (l:=[.string slo,.string shi]) (i:=0) (by omega) wu.o)⟩
theorem z3w (x:Nat→Rat):∀ n i,i<n→gLo x n≤x i
 | n+1,i,h=>by
   have a:=z4b (gLo x n) (x n);show lstQ (gLo x n) (x n)≤x i
   by_cases e:i=n
   · rw[e];exact a.2
   · have b:=z3w x n i (by omega)
     grind
theorem z3x (x:Nat→Rat):∀ n i,i<n→x i≤gHi x n
 | n+1,i,h=>by
   have a:=z3Z (gHi x n) (x n);show x i≤mstQ (gHi x n) (x n)
   by_cases e:i=n
   · rw[e];exact a.2
   · have b:=z3x x n i (by omega)
     grind
theorem vB (x:Nat→Rat):∀ n,∃ i,(i<n∨i=0)∧gLo x n=x i
 | 0=>⟨0,Or.inr rfl,rfl⟩
 | n+1=>by
   rcases xC (gLo x n) (x n) with h|h
   · obtain⟨i,hi,e⟩:=vB x n
     exact⟨i,by omega,h.trans e⟩
   · exact⟨n,Or.inl (by omega),h⟩
theorem vC (x:Nat→Rat):∀ n,∃ i,(i<n∨i=0)∧gHi x n=x i
 | 0=>⟨0,Or.inr rfl,rfl⟩
 | n+1=>by
   rcases xz (gHi x n) (x n) with h|h
   · obtain⟨i,hi,e⟩:=vC x n
     exact⟨i,by omega,h.trans e⟩
   · exact⟨n,Or.inl (by omega),h⟩
theorem z0x {P:Rat→Prop}{x:Nat→Rat}{n:Nat}(hn:1≤n)(h:∀ i,i<n→P (x i))(m:Nat)(hm:m≤n):P (gLo x m):=by
 obtain⟨i,hi,e⟩:=vB x m;rw[e];exact h i (by omega)
theorem z0y {P:Rat→Prop}{x:Nat→Rat}{n:Nat}(hn:1≤n)(h:∀ i,i<n→P (x i))(m:Nat)(hm:m≤n):P (gHi x m):=by
 obtain⟨i,hi,e⟩:=vC x m;rw[e];exact h i (by omega)
def rowE (xa xb:Nat→Rat) (j:Nat):Rat:=if j%2=0 then xa (j / 2) else xb (j / 2)
theorem zR (xa xb:Nat→Rat)(i:Nat):rowE xa xb (2*i)=xa i:=by
 unfold rowE
 rw[if_pos (by omega),show 2*i / 2=i by omega]
theorem zS (xa xb:Nat→Rat)(i:Nat):rowE xa xb (2*i+1)=xb i:=by
 unfold rowE
 rw[if_neg (by omega),show(2*i+1) / 2=i by omega]
theorem zT {xa xb:Nat→Rat}{n:Nat}(hn:1≤n)(h:∀ i,i<n→xa i≤xb i):(exOf (rowE xa xb) (2*n-1)).1=gLo xa n∧(exOf (rowE xa xb) (2*n-1)).2=gHi xb n:=by
 refine⟨z2G _ _ (fun j hj=>?_) ?_,z4p _ _ (fun j hj=>?_) ?_⟩
 · have a:=z3w xa n (j / 2) (by omega)
   have b:=h (j / 2) (by omega);unfold rowE
   split<;>grind
 · obtain⟨i,hi,e⟩:=vB xa n
   exact⟨2*i,by omega,by rw[zR];exact e⟩
 · have a:=z3x xb n (j / 2) (by omega)
   have b:=h (j / 2) (by omega);unfold rowE
   split<;>grind
 · obtain⟨i,hi,e⟩:=vC xb n
   exact⟨2*i+1,by omega,by rw[zS];exact e⟩
theorem z4W (n:Nat)(X:Nat→ByteArray)(hX:∀ j,j<n*2→(X j).size≤40)(w:World)(hl:La w) :
 ∃ lo hi er,(∀ a c W,Below w.heap.size w W→SI W a n c X→CR 19 #[.slice a n c] W (.tuple #[.agg #[.string lo,.string hi],.int .i64 er]))∧(∀ a c W,SI W a n c X→CR 21 #[.slice a n c] W (.tuple #[.agg #[.string lo,.string hi],.int .i64 er])):=by
 by_cases h0:n=0
 · exact⟨_,_,_,fun a c W _ _=>z4e a n c h0 W,fun a c W _=>z4j a n c h0 W⟩
 by_cases hb:1024<n
 · exact⟨_,_,_,fun a c W _ _=>z0l a n c hb W,fun a c W _=>z0s a n c hb W⟩
 have each:∀ i,i<n→∃ q:Bool × Rat × Rat,KIb 46 (.agg #[.string (X (i*2)),.string (X (i*2+1))]) q.2.1 q.2.2 q.1 ∧
  (CL 27 #[.agg #[.string (X (i*2)),.string (X (i*2+1))]] (.bool q.1))∧(q.1=true→X (i*2)=Sq q.2.1∧X (i*2+1)=Sq q.2.2∧SmQ 40 q.2.1∧SmQ 40 q.2.2∧q.2.1≤q.2.2):=fun i hi=>by
  obtain⟨b,x,y,k1,k2,k3⟩:=pIV (X (i*2)) (X (i*2+1)) (hX _ (by omega)) (hX _ (by omega));exact⟨(b,x,y),k1,k2,k3⟩
 obtain⟨Q,hQ⟩:=Go.Deep.choose_lt each;obtain⟨V,hVe⟩:∃ V:Nat→Bool,V=fun i=>(Q i).1:=⟨_,rfl⟩;obtain⟨xa,hxa⟩:∃ x:Nat→Rat,x=fun i=>(Q i).2.1:=⟨_,rfl⟩;obtain⟨xb,hxb⟩:∃ x:Nat→Rat,x=fun i=>(Q i).2.2:=⟨_,rfl⟩;have hF:∀ i,i<n→KIb 46 (.agg #[.string (X (i*2)),.string (X (i*2+1))]) (xa i) (xb i) (V i):=fun i hi=>by rw[hVe,hxa,hxb];exact(hQ i hi).1
 have hV:∀ i,i<n→CL 27 #[.agg #[.string (X (i*2)),.string (X (i*2+1))]] (.bool (V i)):=fun i hi=>by rw[hVe];exact(hQ i hi).2.1
 have hE:∀ i,i<n→V i=true→X (i*2)=Sq (xa i)∧X (i*2+1)=Sq (xb i)∧SmQ 40 (xa i)∧SmQ 40 (xb i)∧xa i≤xb i:=fun i hi h=>by rw[hVe]at h;rw[hxa,hxb];exact(hQ i hi).2.2 h
 clear hQ each hVe hxa hxb
 have hq:∀ i,i<n→V i=true→X (i*2)=Sq (rowE xa xb (2*i))∧X (i*2+1)=Sq (rowE xa xb (2*i+1))∧aR (rowE xa xb (2*i))∧aR (rowE xa xb (2*i+1)):=fun i hi h=>by
  obtain⟨k1,k2,k3,k4,_⟩:=hE i hi h;rw[zR,zS];exact⟨k1,k2,g40 k3,g40 k4⟩
 have hv1:∀ g o c W,n≤c→Below w.heap.size w W→LI W g o n X→CR 19 #[.slice (some ⟨g,o,none⟩) n c] W (HuV V (rowE xa xb) n):=fun g o c W hc hW hL =>
  z0m g o n c X (rowE xa xb) V _ rfl (by omega) (by omega) hc W (hl.on hW) hL hV hq
 have sa:∀ m,(∀ j,j<m→V j=true)→m≤n→∀ i,i<m→SmQ 40 (xa i)∧SmQ 40 (xb i):=fun m h hm i hi=>by
  obtain⟨_,_,k3,k4,_⟩:=hE i (by omega) (h i hi);exact⟨k3,k4⟩
 have hv2:∀ g o c W,LI W g o n X→CR 21 #[.slice (some ⟨g,o,none⟩) n c] W (HuV V (rowE xa xb) n):=fun g o c W hL =>
  z0t g o n c X V xa xb (rowE xa xb) (xa 0) (xb 0) _ rfl (by omega) (by omega) W hL ⟨rfl,rfl⟩ (hF 0 (by omega)) hF
   (fun i hi h=>by
        have s1:=z0x (P:=SmQ 40) (x:=xa) (n:=i+1) (by omega) (fun j hj=>(sa (i+1) h (by omega) j hj).1) i (by omega);have s2:=z0y (P:=SmQ 40) (x:=xb) (n:=i+1) (by omega) (fun j hj=>(sa (i+1) h (by omega) j hj).2) i (by omega);have s3:=sa (i+1) h (by omega) i (by omega)
        exact z5M (s1.mono (by decide)) (s2.mono (by decide)) (s3.1.mono (by decide)) (s3.2.mono (by decide)))
   (fun h=>zT (by omega) (fun i hi=>(hE i hi (h i hi)).2.2.2.2))
   (fun h=>hIo ((z0x (P:=SmQ 40) (by omega) (fun j hj=>(sa n h (Nat.le_refl _) j hj).1) n (Nat.le_refl _)).mono (by decide)) ((z0y (P:=SmQ 40) (by omega) (fun j hj=>(sa n h (Nat.le_refl _) j hj).2) n (Nat.le_refl _)).mono (by decide)))
 obtain⟨lo,hi,er,e⟩:∃ lo hi er,HuV V (rowE xa xb) n=.tuple #[.agg #[.string lo,.string hi],.int .i64 er]:=by
  unfold HuV
  split
  · exact⟨_,_,_,rfl⟩
  · exact⟨_,_,_,rfl⟩
 rw[e]at hv1 hv2;refine⟨lo,hi,er,fun a c W hW hs=>?_,fun a c W hs=>?_⟩
 · rcases hs with h|⟨g,o,rfl,hc,_,hL⟩
   · exact absurd h h0
   · exact hv1 g o c W hc hW hL
 · rcases hs with h|⟨g,o,rfl,_,_,hL⟩
   · exact absurd h h0
   · exact hv2 g o c W hL
end Go.Proofs.YteihfbkaieemdaaGreatDoor
open Go.Lib (hid)
namespace Go.Proofs.YteihfbkaieemdaaGreatDoor
open Go.RowKit Go.Gb
theorem z1m (a:Option Addr)(n c:Nat)(X:Nat→ByteArray)(w:World)(hl:SI w a n c X) :
 Calls Tryz.prog 61 #[.slice a n c,.func (.func 30) #[] #[]] w fun e w'=>∃ r:Int,e=.returned (.int .i64 r)∧((r = -1∧∀ j,j<n*2→(X j).size≤40)∨(0≤r∧∃ j,j<n*2∧40<(X j).size))∧Below w.heap.size w w':=by
 have HL:=hid hl;clear hl;go_enter func61,ntmps61
 go_wp2;go_loopw [8] (fun ii wr=>∃ i:Nat,i≤n∧ii=.int .i64 (i:Int)∧Hid (Below w.heap.size w wr)∧∀ j,j<i*2→(X j).size≤40) (fun ii _=>n-(intOf ii).toNat)
 case atStart=>exact⟨0,by omega,rfl,hid (Below.refl _ _),fun j hj=>by omega⟩
 case round =>
  obtain⟨i,hin,rfl,ww,hF⟩:=hrel;rcases HL.o with rfl|⟨g,o,rfl,hnc,hcm,hL⟩
  · obtain rfl:i=0:=by omega
    clear hF;go_wp2;go_ret
    exact⟨-1,rfl,Or.inl ⟨rfl,fun j hj=>by omega⟩,ww.o⟩
  have hmx:(n:Int)≤9223372036854775807:=by unfold maxLen at hcm;omega
  by_cases hlt:i<n
  · obtain⟨c0,c1⟩:=(hL.below ww.o).at hlt
    have hlt1:(i:Int)<(n:Int):=by omega
    have wi:IntKind.i64.wrap ((i:Int)+1)=(i:Int)+1:=IntWalk.i64_in _ (by omega);have hi0:(0:Int)≤(i:Int):=by omega
    have HF:=hid hF;have CW:=hid (fun W=>z3F (X (i*2)) (X (i*2+1)) _ rfl W);clear hF hL;go_wp2_with fail
    refine(CW.o _).mono ?_;rintro e w1 ⟨rfl,hb⟩;have wu:=hbt ww hb;clear hb c0 c1 CW
    cases hw:decide (40<(X (i*2)).size) || decide (40<(X (i*2+1)).size) with
    | true =>
      have HJ:=hid (show ∃ j,j<n*2∧40<(X j).size from by
       rw[Bool.or_eq_true,decide_eq_true_eq,decide_eq_true_eq]at hw;rcases hw with h|h
       · exact⟨i*2,by omega,h⟩
       · exact⟨i*2+1,by omega,h⟩)
      clear hw;go_wp2;go_ret
      exact⟨i,rfl,Or.inr ⟨by omega,HJ.o⟩,wu.o⟩
    | false =>
      have HF:=hid (show ∀ j,j<(i+1)*2→(X j).size≤40 from fun j hj=>by
       simp only[Bool.or_eq_false_iff,decide_eq_false_iff_not]at hw;by_cases hj2:j<i*2
       · exact HF.o j hj2
       · rcases (by omega:j=i*2∨j=i*2+1) with rfl|rfl<;>omega)
      clear hw;go_wp2;go_roundw
      case rel=>exact⟨i+1,by omega,by go_num,wu,HF.o⟩
      case measure=>simp[intOf];omega
  · have hge:decide ((i:Int)<(n:Int))=false:=by rw[decide_eq_false_iff_not];omega
    obtain rfl:i=n:=by omega
    have HF:=hid hF;clear hF;go_wp2;go_ret
    exact⟨-1,rfl,Or.inl ⟨rfl,HF.o⟩,ww.o⟩
theorem z1o (a:Option Addr)(n c:Nat)(X:Nat→ByteArray)(b:Bool)(hb:((List.range (n*2)).all fun j=>decide ((X j).size≤40)) = !b)(w:World)(hl:SI w a n c X) :
 CR 29 #[.slice a n c,.func (.func 30) #[] #[]] w (.bool b):=by
 have CX:=hid (z1m a n c X w hl);have HQ:=hid hb;clear hl hb;go_enter func29,ntmps29
 go_wp2_with fail
 refine CX.o.mono ?_;rintro e w1 ⟨r,rfl,h,hb⟩;have wu:=hid hb
 have E:decide (0≤r)=b:=by
  have hq:=HQ.o;rcases h with⟨rfl,h⟩|⟨h0,j,hj,h⟩
  · have:((List.range (n*2)).all fun j=>decide ((X j).size≤40))=true:=by
       rw[List.all_eq_true];intro j hj;simpa using h j (by simpa using hj)
    rw[this]at hq
    obtain rfl:b=false:=by
       cases b with
       | false=>rfl
       | true=>cases hq
    decide
  · have:((List.range (n*2)).all fun j=>decide ((X j).size≤40))=false:=by
       rw[List.all_eq_false];exact⟨j,by simpa using hj,by simp;omega⟩
    rw[this]at hq
    obtain rfl:b=true:=by
       cases b with
       | true=>rfl
       | false=>cases hq
    exact decide_eq_true h0
 clear h hb HQ CX
 cases b with
 | false =>
   have e2:¬ 0≤r:=by simpa using E
   go_wp2;go_ret
   exact⟨rfl,wu.o⟩
 | true =>
   have e2:0≤r:=by simpa using E
   go_wp2;go_ret
   exact⟨rfl,wu.o⟩
theorem rZ (a:Option Addr)(n c:Nat)(X:Nat→ByteArray)(b:Bool)(hb:((List.range (n*2)).all fun j=>decide ((X j).size≤40)) = !b)(w:World)(hl:SI w a n c X) :
 CR 6 #[.slice a n c] w (.bool b):=by
 have CX:=hid (z1o a n c X b hb w hl);clear hl hb;go_enter func6,ntmps6
 go_wp2_with fail
 refine CX.o.mono ?_;rintro e w1 ⟨rfl,hb⟩;have wu:=hid hb;clear hb CX;go_wp2;go_ret
 exact⟨rfl,wu.o⟩
theorem zg (g:Nat)(l u m n:ByteArray)(b:Bool)(hb:decide (40<l.size∨40<u.size∨40<m.size∨40<n.size)=b)(w:World)(hg:g<w.heap.size)(hc:w.cell? ⟨g,0,none⟩=some (.string l)∧w.cell? ⟨g,1,none⟩=some (.string u)∧w.cell? ⟨g,2,none⟩=some (.string m)∧w.cell? ⟨g,3,none⟩=some (.string n)) :
 CR 6 #[.slice (some ⟨g,0,none⟩) 2 2] w (.bool b):=by
 obtain⟨c0,c1,c2,c3⟩:=hc;refine rZ _ 2 2 (fun j=>if j=0 then l else if j=1 then u else if j=2 then m else n) b ?_ w (Or.inr ⟨g,0,rfl,Nat.le_refl _,by decide,hg,fun j hj=>?_⟩)
 · subst hb
   simp only[Nat.reduceMul,show List.range 4=[0,1,2,3]from rfl,List.all_cons,List.all_nil,Bool.and_true];rw[Bool.eq_iff_iff];simp
 · match j,hj with
   | 0,_=>exact c0
   | 1,_=>exact c1
   | 2,_=>exact c2
   | 3,_=>exact c3
   | _+4,h=>exact absurd h (by omega)
open Go.ChangeShapes Go.WideShapes Go.ChangeAt Go.WideMaps Go.WideElems Go.RowKit Go.Gb Go.Joins Go.Deep
open Go.ChangeMaps (open_string shut_string)
theorem vk:∃ k0 k1:Field,Tryz.prog.underlying 24=some (.struct #[k0,k1])∧k0.type=22∧k0.offset=0∧k1.type=22∧k1.offset=1:=⟨_,_,underlying24,rfl,rfl,rfl,rfl⟩
theorem zZ {H:Type}{enc:TypeId × Value→H}{P:Program}{f:Func}{s:ChangeSpec}{apart fresh handsOn:Bool}{W W':World}{args:Array Value}{v:Value}{ds gs:List (DataW H)}{ps pa:List MemPlace}
 (hW:DataW.Whole enc P f.params.toList s.vars apart W args.toList ds gs ps)
 (hres:∀ (b:Nat) (sp:Nat→Bool) (hd:Bool),DataW.TrodAll enc P W' b sp hd f.resultTypes.toList (v.resultList f.resultTypes.size) (s.fn H (ds++gs)).results [])
 (hargs:DataW.TrodAll enc P W' 0 (fun b=>decide (b<W.heap.size)) true f.params.toList args.toList (s.fn H (ds++gs)).args pa)
 (hvars:∀ sp:Nat→Bool,DataW.TrodVars enc P W' sp s.vars (s.fn H (ds++gs)).vars [])
 (hk:W.keptBut W' (fun _=>False)):s.post enc P f apart fresh handsOn false W args v W' :=
 ⟨ds,gs,ps,[],pa,[],hW,hres _ _ _,hargs,hvars _,World.keptBut_mono (fun p hp=>hp.elim) hk,fun h=>by cases h⟩
theorem laidOut:laidOutB Tryz.prog=true:=by kernel_rfl
set_option maxRecDepth 100000 in
theorem yw {H:Type}{enc:TypeId × Value→H}{W:World}{b0:Nat}{r:Reach}{v:Value}{d:DataW H}{p:List MemPlace}
 (hv:Value.okWide Tryz.prog W r b0 32 v) (h:DataW.Trod enc Tryz.prog W 0 (fun _=>true) true 32 v d p) (hlt:∀ x∈p,x.block<W.heap.size) :
 ∃ a n c X,v=.slice a n c∧SI W a n c X:=by
 obtain⟨a0,len,cap,rfl⟩:=okWide_slice underlying32 hv;obtain⟨fuel,hf⟩:=h;have hR:Tryz.prog.cellsOf 22=1:=by kernel_rfl
 have hV:Tryz.prog.cellsOf 24=2:=by kernel_rfl
 rcases open_slice underlying32 hf with⟨hcs,hx⟩|⟨a,len',cap',m,n,D,Pl,hcs,_,hl,hm,hmm,hx,hel⟩
 · simp[Value.cells]at hcs
   obtain⟨rfl,rfl,rfl⟩:=hcs;exact⟨none,0,0,fun _=>⟨#[]⟩,rfl,Or.inl rfl⟩
 · simp[Value.cells]at hcs
   obtain⟨rfl,rfl,rfl⟩:=hcs;simp only[Prod.mk.injEq]at hx;simp only[if_true]at hmm;by_cases h0:len=0
   · exact⟨some a,len,cap,fun _=>⟨#[]⟩,rfl,Or.inl h0⟩
   have each:∀ i,i<m→∃ s:ByteArray × ByteArray,W.cell? (a.add (i*2))=some (.string s.1)∧W.cell? (a.add (i*2+1))=some (.string s.2):=by
    intro i hi;obtain⟨cs',h1,h2⟩:=hel i hi;rw[hV]at h1;obtain⟨_,hlen,hcell⟩:=World.cells?_some h1;obtain⟨k0,k1,hu,e0,o0,e1,o1⟩:=vk;obtain⟨z0,z1,q,hz,_,g0,g1⟩:=trod_struct2 hu h2;rw[e0,o0,hR]at g0;rw[e1,o1,hR]at g1;obtain⟨x,b0,_,_⟩:=DataW.trod_string underlying22 g0;obtain⟨y,b1,_,_⟩:=DataW.trod_string underlying22 g1
    match cs',hlen with
    | [c0,c1],_ =>
      simp at b0 b1
      subst b0 b1;have e0:=hcell 0 (by omega);have e1:=hcell 1 (by omega);rw[add_add]at e0 e1;exact⟨(x,y),by simpa using e0,by simpa using e1⟩
   obtain⟨S,hS⟩:=choose_lt each;obtain⟨g,o,spot⟩:=a;have hspot:spot=none:=by simpa [Addr.add] using World.cell?_spot (hS 0 (by omega)).1
   subst hspot;refine⟨some ⟨g,o,none⟩,len,cap,fun j=>if j%2=0 then (S (j / 2)).1 else (S (j / 2)).2,rfl,Or.inr ⟨g,o,rfl,hl,hm,hlt (.cell g o) ?_,fun j hj=>?_⟩⟩
   · rw[hx.2]
     exact List.mem_append_left _ (MemPlace.mem_row.2 ⟨0,by rw[hV];omega,by simp⟩)
   · obtain⟨c0,c1⟩:=hS (j / 2) (by omega)
     rw[add_plain]at c0 c1;rcases (by omega:j%2=0∨j%2=1) with h|h
     · have e:o+j=o+j / 2*2:=by omega
       simpa [h,e] using c0
     · have e:o+j=o+(j / 2*2+1):=by omega
       simpa [h,e] using c1
theorem tL {x:Int}(h:(Lit.int .i64 x).wf=true) : -9223372036854775808≤x∧x≤9223372036854775807:=by
 have h1:IntKind.i64.min≤x∧x≤IntKind.i64.max:=by simpa [Lit.wf] using h
 exact⟨Int.le_trans (show(-9223372036854775808:Int)≤IntKind.i64.min by decide) h1.1,Int.le_trans h1.2 (show IntKind.i64.max≤9223372036854775807 by decide)⟩
