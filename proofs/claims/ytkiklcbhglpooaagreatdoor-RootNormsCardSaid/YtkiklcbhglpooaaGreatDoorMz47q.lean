/- texts -/
import Derived.Test.YtkiklcbhglpooaaGreatDoorMz46q
import Derived.Test.YtkiklcbhglpooaaGreatDoorOj
namespace Go.Proofs.YtkiklcbhglpooaaGreatDoor
open Go.RowKit Go.Gb
theorem mX {q:Rat}{z:Int}(h1:(z:Rat)≤q)(h2:q<(z:Rat)+1):q.floor=z:=by
 apply Int.le_antisymm
 · have:q.floor<z+1:=Rat.floor_lt_iff.2 (by rw[Rat.intCast_add];exact h2)
   omega
 · exact Rat.le_floor_iff.2 h1
theorem lu {a:Rat}{n:Nat}(hn:1≤n):a / ((n:Nat):Rat)*((n:Nat):Rat)=a:=Rat.div_mul_cancel (ig hn)
theorem z5o {x:Rat}{n:Nat}(hn:1≤n):rdQ (iV x n) (n:Int)=(eK x n:Rat) / (n:Rat):=by
 rw[z3V];have e:(((n:Nat):Int):Rat)=((n:Nat):Rat):=rfl;have ek:(((eK x n:Nat):Int):Rat)=((eK x n:Nat):Rat):=rfl;rw[e]
 have hf:(iV x n*((n:Nat):Rat)).floor=((eK x n:Nat):Int):=by
  unfold iV
  split
  · rw[lu hn]
    exact mX (by rw[ek];exact Rat.le_refl) (by rw[ek];grind)
  · rw[lu hn]
    exact mX (by rw[ek];grind) (by rw[ek];grind)
 rw[hf,ek]
theorem z4s {x:Rat}{n:Nat}(hn:1≤n):0-rdQ (0-iV x n) (n:Int)=(eH x n:Rat) / (n:Rat):=by
 rw[z3V];have e:(((n:Nat):Int):Rat)=((n:Nat):Rat):=rfl;have ek:(((eK x n:Nat):Int):Rat)=((eK x n:Nat):Rat):=rfl;rw[e];have eh:(((eH x n:Nat):Int):Rat)=((eH x n:Nat):Rat):=rfl
 have hf:((0-iV x n)*((n:Nat):Rat)).floor = -((eH x n:Nat):Int):=by
  have em:(0-iV x n)*((n:Nat):Rat) = -(iV x n*((n:Nat):Rat)):=by grind
  rw[em];unfold iV eH
  split
  · rw[lu hn]
    exact mX (by rw[Rat.intCast_neg,ek];exact Rat.le_refl) (by rw[Rat.intCast_neg,ek];grind)
  · rw[lu hn]
    have ek1:(((eK x n+1:Nat):Int):Rat)=((eK x n:Nat):Rat)+1:=by rw[Rat.intCast_natCast,Rat.natCast_add];rfl
    exact mX (by rw[Rat.intCast_neg,ek1];grind) (by rw[Rat.intCast_neg,ek1];grind)
 rw[hf,Rat.intCast_neg,eh];grind
theorem z0L {x y:Rat}{n:Nat}(hx:0≤x)(hxy:x≤y)(hn:1≤n):iV x n≤iV y n:=by
 have hy:0≤y:=by grind
 have hp:=qV hn;have hnn:(0:Rat)≤(n:Rat)*(n:Rat):=Rat.mul_nonneg (dQ n) (dQ n);have hm:x*((n:Rat)*(n:Rat))≤y*((n:Rat)*(n:Rat)):=Rat.mul_le_mul_of_nonneg_right hxy hnn;have⟨a1,a2⟩:=rU (n:=n) hx;have⟨b1,b2⟩:=rU (n:=n) hy;have hk:eK x n≤eK y n:=z6t hy (by grind);have hkr:=z0l.2 hk;unfold iV
 split
 · split
   · exact jY hp hkr
   · exact jY hp (by grind)
 · rename_i h1
   split
   · rename_i h2
     refine jY hp ?_;have e2:=of_decide_eq_true h2
     have hne:eK x n≠eK y n:=by
        intro he;apply h1
        refine decide_eq_true ?_;rw[he]at a1 ⊢;grind
     have hlt:eK x n+1≤eK y n:=by omega
     have hlr:=z0l.2 hlt;rw[Rat.natCast_add]at hlr;have:((1:Nat):Rat)=1:=rfl;grind
   · exact jY hp (by grind)
theorem z5w {x y:Rat}{n k:Nat}(h0:0≤x)(hxy:x≤y)(hx:SmQ k x)(hy:SmQ k y)(hk:1≤k)(hk2:k≤750)(hn1:1≤n)(hn2:n≤1000000000)(w:World)(hla:La w) :
 CV w 21 #[.agg #[.string (Sq x),.string (Sq y)],.int .i64 (n:Int)] (.tuple #[.agg #[.string (Sq ((eK x n:Rat) / (n:Rat))),.string (Sq ((eH y n:Rat) / (n:Rat)))],.int .i64 0]):=by
 have hn:Sm 10 n:=by
  have h:(1000000000:Nat)<10^10:=by decide
  exact Nat.lt_of_le_of_lt hn2 h
 have hy0:0≤y:=by grind
 have s1:=z06 h0 hx hn hn1 hk;have s2:=z06 hy0 hy hn hn1 hk;have cv:CV w 39 #[.agg #[.string (Sq x),.string (Sq y)]] (.bool true):=fun W hW=>pz x y hxy (hx.fit (by omega)) (hy.fit (by omega)) W (hla.on hW);have cs:=kE hx (by omega) w hla;have c1:=z0E h0 hx hk hk2 hn1 hn2 w hla;have c2:=z0E hy0 hy hk hk2 hn1 hn2 w hla
 have cr:CV w 59 #[.agg #[.string (Sq (iV x n)),.string (Sq (iV y n))],.int .i64 (n:Int)] (.tuple #[.agg #[.string (Sq ((eK x n:Rat) / (n:Rat))),.string (Sq ((eH y n:Rat) / (n:Rat)))],.int .i64 0]):=fun W hW=>by
  have h:=z5c (iV x n) (iV y n) (n:Int) (k:=k+33) (by omega) (z0L h0 hxy hn1) s1 s2 (by omega) (by omega) W (hla.on hW);rw[z5o hn1,z4s hn1]at h;exact h
 by_cases he:x=y
 · subst he
   exact z2G _ _ _ _ _ _ w cv cs c1 cr (eZ h0) (by omega) (by omega)
 · exact z2H _ _ _ _ _ _ _ _ w cv cs c1 c2 cr (eZ h0) (pK (fun h=>he h.symm)) (by omega) (by omega)
theorem rG {x:Rat}{n k:Nat}(h0:0≤x)(hx:SmQ k x)(hk:1≤k)(hk2:k≤750)(hn1:1≤n)(hn2:n≤1000000000)(w:World)(hla:La w) :
 CV w 17 #[.string (Sq x),.int .i64 (n:Int)] (.tuple #[.agg #[.string (Sq ((eK x n:Rat) / (n:Rat))),.string (Sq ((eH x n:Rat) / (n:Rat)))],.int .i64 0]) :=
 u7 _ _ _ _ _ w (fun W hW=>z3E x (hx.fit (by omega)) W (hla.on hW)) (z5w h0 Rat.le_refl hx hx hk hk2 hn1 hn2 w hla)
def Stt (w:World):Prop:=Stb w 0 #[.int .i64 (-1),.int .i64 (-1),.int .i64 2,.int .i64 (-1),.int .i64 0,.int .i64 1,.int .i64 2,.int .i64 1,.int .i64 1] 124
theorem Stt.on {w w':World}(h:Stt w)(hb:Below w.heap.size w w'):Stt w':=Stb.below h hb
theorem sg3 (x y:Rat):cmpQ x 0*cmpQ y 0 = -1∨cmpQ x 0*cmpQ y 0=0∨cmpQ x 0*cmpQ y 0=1:=by
 rcases j6 x 0 with⟨_,e⟩|⟨_,e⟩|⟨_,e⟩<;>rcases j6 y 0 with⟨_,f⟩|⟨_,f⟩|⟨_,f⟩<;>rw[e,f]<;>decide
theorem z4l (x y:Rat):IntKind.i64.wrap (cmpQ x 0*cmpQ y 0)=cmpQ x 0*cmpQ y 0:=by
 rcases sg3 x y with h|h|h<;>rw[h]<;>decide
theorem mI {x y:Rat}{k:Nat}(hx:SmQ k x)(hy:SmQ k y)(hk:k≤900)(w:World)(hla:La w) :
 CV w 110 #[.agg #[.string (Sq x),.string (Sq y)]] (.int .i64 (cmpQ x 0*cmpQ y 0)) :=
 yO _ _ _ _ _ w (kE hx hk w hla) (kE hy hk w hla) (z4l x y)
theorem kr {x y:Rat}{k:Nat}(hx:SmQ k x)(hy:SmQ k y)(hk:k+k+k≤900)(w:World)(hla:La w) :
 CV w 112 #[.agg #[.string (Sq x),.string (Sq y)]] (.string (Sq (x*x*y))) :=
 tZ _ _ _ _ w (fZ rfl (hx.fit (by omega)) (hx.fit (by omega)) w hla) (fZ rfl ((hx.mul hx).fit (by omega)) (hy.fit (by omega)) w hla)
theorem vcv {x:Rat}{k:Nat}(hx:SmQ k x)(hk:k≤900)(w:World)(hla:La w):CV w 24 #[.string (Sq x)] (.bool true):=fun W hW=>pQ x (hx.fit hk) W (hla.on hW)
theorem z5f:Sq (1:Rat)=⟨#[49]⟩:=by decide +kernel
theorem qvn {a:ByteArray}(h:vldQ a.data.toList=false)(ha:a.size≤900)(w:World)(hla:La w):CV w 24 #[.string a] (.bool false):=fun W hW=>z0p a h ha W (hla.on hW)
theorem zZ:Sq (0:Rat)=⟨#[48]⟩:=by decide +kernel
end Go.Proofs.YtkiklcbhglpooaaGreatDoor
set_option maxRecDepth 100000
set_option maxHeartbeats 20000000
open Go.Lib (hid)
namespace Go.Proofs.YtkiklcbhglpooaaGreatDoor
open Go.RowKit Go.Gb
def ssQ (q:Nat→Rat):Nat→Rat
 | 0=>0
 | m+1=>ssQ q m+q m*q m
theorem pJ (q:Nat→Rat):∀ m,0≤ssQ q m
 | 0=>Rat.le_refl
 | m+1=>by
   have h:=pJ q m
   have h2:0≤q m*q m:=by
    rcases Rat.le_total (a:=0) (b:=q m) with h|h
    · exact Rat.mul_nonneg h h
    · have:=Rat.mul_nonneg (show 0 ≤ -q m by grind) (show 0 ≤ -q m by grind)
      grind
   show 0≤ssQ q m+q m*q m
   grind
theorem z3O {q:Nat→Rat}:∀ m,(∀ j,j<m→SmQ 40 (q j))→SmQ (81*m+1) (ssQ q m)
 | 0,_=>(show SmQ 1 (0:Rat) from⟨by unfold Sm;decide,by unfold Sm;decide⟩)
 | m+1,h=>by
   have a:=z3O m (fun j hj=>h j (by omega));have b:=h m (by omega);exact(a.add (b.mul b)).mono (by omega)
def NoV (V:Nat→Bool) (n:Nat) (s t:ByteArray) (er:Int):Value:=if (List.range n).all V then .tuple #[.agg #[.string s,.string t],.int .i64 er] else .tuple #[.agg #[.string ⟨#[]⟩,.string ⟨#[]⟩],.int .i64 1]
theorem z4c {V:Nat→Bool}{s t:ByteArray}{er:Int}{n i:Nat}(hi:i<n)(h:V i=false):NoV V n s t er=.tuple #[.agg #[.string ⟨#[]⟩,.string ⟨#[]⟩],.int .i64 1]:=by
 unfold NoV
 rw[if_neg];rw[List.all_eq_true];intro h2;have:=h2 i (List.mem_range.2 hi);rw[h]at this;cases this
theorem z1H {V:Nat→Bool}{s t:ByteArray}{er:Int}{n:Nat}(h:∀ j,j<n→V j=true):NoV V n s t er=.tuple #[.agg #[.string s,.string t],.int .i64 er]:=by
 unfold NoV
 rw[if_pos];rw[List.all_eq_true];intro j hj;exact h j (List.mem_range.1 hj)
theorem z0C (a:Option Addr)(n c:Nat)(z:Int)(hn:64<n)(w:World):CR 7 #[.slice a n c,.int .i64 z] w (.tuple #[.agg #[.string ⟨#[]⟩,.string ⟨#[]⟩],.int .i64 8]):=by
 have e1:(64:Int)<(n:Int):=by omega
 clear hn;go_enter Tryz.func7,Tryz.ntmps7
 go_upto_region 1 with fail
 refine aG w [(#[.string ⟨#[]⟩,.string ⟨#[]⟩],27)] rfl ?_;rintro W0 ⟨k1,hb⟩;have wo:=hid (show Below w.heap.size w W0 from hb);have K1:=hid k1;clear k1 hb;obtain ⟨wu,ww⟩:=ay K1.o rfl rfl;obtain ⟨sw,r9⟩:=bI K1.o;go_wp2;exact bodyPost_ret (v:=.tuple #[.agg #[.string ⟨#[]⟩,.string ⟨#[]⟩],.int .i64 8]) (by simp[results,Tryz.results7,go_sem,wu,ww]) rfl ⟨rfl,az (l:=[.string ⟨#[]⟩,.string ⟨#[]⟩]) (i:=0) (by omega) wo.o⟩
theorem z0D (a:Option Addr)(n c:Nat)(X:Nat→ByteArray)(q:Nat→Rat)(V:Nat→Bool)(z:Int)(s t:ByteArray)(er:Int)(v:Value)(hv:NoV V n s t er=v)(hn:n≤64)(w:World)(hl:SR w a n c X)
 (h1:∀ i,i<n→CV w 24 #[.string (X i)] (.bool (V i)))
 (h2:∀ i,i<n→V i=true→CV w 26 #[.string (X i),.string (X i)] (.string (Sq (q i*q i))))
 (h3:∀ i,i<n→(∀ j,j<i+1→V j=true)→CV w 25 #[.string (Sq (ssQ q i)),.string (Sq (q i*q i))] (.string (Sq (ssQ q (i+1)))))
 (h4:(∀ j,j<n→V j=true)→CV w 17 #[.string (Sq (ssQ q n)),.int .i64 z] (.tuple #[.agg #[.string s,.string t],.int .i64 er])) :
 Calls Tryz.prog 7 #[.slice a n c,.int .i64 z] w fun e w'=>e=.returned v∧Below w.heap.size w w':=by
 obtain ⟨HL,H1,H2,H3,H4,HV⟩:=dw hl h1 h2 h3 h4 hv;have ne1:¬ (64:Int)<(n:Int):=by omega
 have s0:Sq (ssQ q 0)=⟨#[48]⟩:=zZ;clear hl h1 h2 h3 h4 hv;go_enter Tryz.func7,Tryz.ntmps7
 go_upto_region 1 with fail
 refine aG w [(#[.string ⟨#[]⟩,.string ⟨#[]⟩],27)] rfl ?_;rintro W0 ⟨k1,hb⟩;have wo:=hid (show Below w.heap.size w W0 from hb);have K1:=hid k1;clear k1 hb;go_wp2;go_loopw [6,8,15] (fun sm _ ii wr=>∃ i:Nat,i≤n∧sm=.string (Sq (ssQ q i))∧ii=.int .i64 (i:Int)∧Hid (∀ j,j<i→V j=true)∧Hid (Below w.heap.size w wr)∧Hid (SBk wr (w.heap.size) #[.string ⟨#[]⟩,.string ⟨#[]⟩] 27)) (fun _ _ ii _=>n-(intOf ii).toNat)
 case atStart=>exact⟨0,by omega,by rw[s0],rfl,hid (fun j hj=>by omega),wo,K1⟩
 case round =>
  obtain⟨i,hin,rfl,rfl,HA,u6,K1⟩:=hrel;have hi0:(0:Int)≤(i:Int):=by omega
  have wi:IntKind.i64.wrap ((i:Int)+1)=(i:Int)+1:=IntWalk.i64_in _ (by omega);by_cases hlt:i<n
  · rcases HL.o with h0|⟨g,o,rfl,hnc,hcm,hL⟩
    · omega
    have hlt1:(i:Int)<(n:Int):=by omega
    have c0:=(hL.below u6.o).2 i hlt;obtain ⟨C1,C2,C3⟩:=av (H1.o i hlt) (H2.o i hlt) (H3.o i hlt);generalize X i=x at *
    cases hVi:V i with
    | false =>
      rw[hVi]at C1;obtain rfl:v=.tuple #[.agg #[.string ⟨#[]⟩,.string ⟨#[]⟩],.int .i64 1]:=by rw[← HV.o];exact z4c hlt hVi
      clear HV C2 C3;go_wp2_with fail
      with_reducible refine(C1.o _ u6.o).mono ?_
      rintro e W1 ⟨rfl,hb⟩;have K1:=hid (K1.o.below hb);have w9:=hbt u6 hb;clear hb c0;obtain ⟨wu,ww⟩:=ay K1.o rfl rfl;obtain ⟨sw,r9⟩:=bI K1.o;go_wp2;exact bodyPost_ret (v:=.tuple #[.agg #[.string ⟨#[]⟩,.string ⟨#[]⟩],.int .i64 1]) (by simp[results,Tryz.results7,go_sem,wu,ww]) rfl ⟨rfl,az (l:=[.string ⟨#[]⟩,.string ⟨#[]⟩]) (i:=0) (by omega) w9.o⟩
    | true =>
      rw[hVi]at C1;have C2:=hid (C2.o hVi)
      have HA1:=hid (show ∀ j,j<i+1→V j=true from fun j hj=>by
       by_cases h:j=i
       · rw[h];exact hVi
       · exact HA.o j (by omega))
      have C3:=hid (C3.o HA1.o);clear hVi;generalize Sq (ssQ q i)=su at *;generalize hsv:Sq (ssQ q (i+1))=sv at *;have HSV:=hid hsv;clear hsv;generalize Sq (q i*q i)=sp at *;go_wp2_with fail
      with_reducible refine(C1.o _ u6.o).mono ?_
      rintro e W1 ⟨rfl,hb⟩;have K1:=hid (K1.o.below hb);have w9:=hbt u6 hb;clear hb c0;go_wp2_with fail
      with_reducible refine(C2.o _ w9.o).mono ?_
      rintro e W2 ⟨rfl,hb⟩;have K1:=hid (K1.o.below hb);have si:=hbt w9 hb;clear hb;go_wp2_with fail
      with_reducible refine(C3.o _ si.o).mono ?_
      rintro e W3 ⟨rfl,hb⟩;have K1:=hid (K1.o.below hb);have sj:=hbt si hb;clear hb;go_wp2;go_roundw
      case rel=>exact⟨i+1,by omega,by rw[HSV.o],by go_num,HA1,sj,K1⟩
      case measure=>simp[intOf];omega
  · have hge:decide ((i:Int)<(n:Int))=false:=by rw[decide_eq_false_iff_not];omega
    obtain rfl:i=n:=by omega
    have hv:=HV.o;rw[z1H HA.o]at hv;have C4:=hid (H4.o HA.o);clear HV;subst hv;generalize Sq (ssQ q i)=su at *;go_wp2_with fail
    with_reducible refine(C4.o _ u6.o).mono ?_
    rintro e W1 ⟨rfl,hb⟩;have K1:=hid (K1.o.below hb);have w9:=hbt u6 hb;clear hb;obtain ⟨wu,ww⟩:=ay K1.o rfl rfl;obtain ⟨sw,r9⟩:=bI K1.o;go_wp2;exact bodyPost_ret (v:=.tuple #[.agg #[.string s,.string t],.int .i64 er]) (by simp[results,Tryz.results7,go_sem,wu,ww]) rfl ⟨rfl,az (l:=[.string s,.string t]) (i:=0) (by omega) w9.o⟩
open Go.Lib (hid)
abbrev Lb (w:World):Prop:=La w∧Stt w
theorem jq {w w':World}(h:Lb w)(hb:Below w.heap.size w w'):Lb w':=⟨h.1.on hb,h.2.on hb⟩
theorem so20 {q:Rat}(h1:q.num.natAbs<1000)(h2:q.den<1000):SmQ 20 q:=⟨(show Sm 3 _ by unfold Sm;omega).mono (by decide),(show Sm 3 _ by unfold Sm;omega).mono (by decide)⟩
theorem xU {x:Rat}{n s:Nat}(m:Nat)(h:(x*((n:Rat)*(n:Rat))).floor.toNat=m)(h1:s*s≤m)(h2:m<(s+1)*(s+1)):eK x n=s:=by
 unfold eK rk
 rw[h];exact mW h1 h2
theorem z6u {x:Rat}{n s:Nat}(hk:eK x n=s)(h:decide (((s:Nat):Rat)*((s:Nat):Rat)=x*((n:Rat)*(n:Rat)))=false):eH x n=s+1:=by
 unfold eH eX
 rw[hk,h];rfl
theorem z4K {x:Rat}{n s:Nat}(hk:eK x n=s)(h:decide (((s:Nat):Rat)*((s:Nat):Rat)=x*((n:Rat)*(n:Rat)))=true):eH x n=s:=by
 unfold eH eX
 rw[hk,h];rfl
theorem oq_2:Sq (2:Rat)=⟨#[50]⟩:=by decide +kernel
theorem oq_3:Sq (3:Rat)=⟨#[51]⟩:=by decide +kernel
theorem oq_4:Sq (4:Rat)=⟨#[52]⟩:=by decide +kernel
theorem oq_9:Sq (9:Rat)=⟨#[57]⟩:=by decide +kernel
theorem z6k:Sq (16:Rat)=⟨#[49,54]⟩:=by decide +kernel
theorem z5u:Sq (25:Rat)=⟨#[50,53]⟩:=by decide +kernel
theorem z6j:Sq (-2:Rat)=⟨#[45,50]⟩:=by decide +kernel
theorem z3X:Sq (9/4:Rat)=⟨#[57,47,52]⟩:=by decide +kernel
theorem z5t:Sq (3/2:Rat)=⟨#[51,47,50]⟩:=by decide +kernel
theorem e2_k:eK (2:Rat) 10=14:=xU 200 (by decide +kernel) (by decide) (by decide)
theorem e2_h:eH (2:Rat) 10=15:=z6u e2_k (by decide +kernel)
theorem z5G:eK (9/4:Rat) 2=3:=xU 9 (by decide +kernel) (by decide) (by decide)
theorem z6v:eH (9/4:Rat) 2=3:=z4K z5G (by decide +kernel)
theorem e9_k:eK (9:Rat) 10=30:=xU 900 (by decide +kernel) (by decide) (by decide)
theorem e9_h:eH (9:Rat) 10=30:=z4K e9_k (by decide +kernel)
theorem z5H:eK (25:Rat) 7=35:=xU 1225 (by decide +kernel) (by decide) (by decide)
theorem z6w:eH (25:Rat) 7=35:=z4K z5H (by decide +kernel)
theorem z2A (w:World)(hla:La w):CV w 17 #[.string ⟨#[50]⟩,.int .i64 10] (.tuple #[.agg #[.string ⟨#[55,47,53]⟩,.string ⟨#[51,47,50]⟩],.int .i64 0]):=by
 have h:=rG (x:=2) (n:=10) (k:=20) (by decide +kernel) (so20 (by decide +kernel) (by decide +kernel)) (by decide) (by decide) (by decide) (by decide) w hla;rw[e2_k,e2_h,oq_2,show Sq (((14:Nat):Rat) / ((10:Nat):Rat))=⟨#[55,47,53]⟩from by decide +kernel,show Sq (((15:Nat):Rat) / ((10:Nat):Rat))=⟨#[51,47,50]⟩from by decide +kernel]at h;exact h
theorem z2z (w:World)(hla:La w):CV w 17 #[.string ⟨#[57,47,52]⟩,.int .i64 2] (.tuple #[.agg #[.string ⟨#[51,47,50]⟩,.string ⟨#[51,47,50]⟩],.int .i64 0]):=by
 have h:=rG (x:=(9/4)) (n:=2) (k:=20) (by decide +kernel) (so20 (by decide +kernel) (by decide +kernel)) (by decide) (by decide) (by decide) (by decide) w hla;rw[z5G,z6v,z3X,show Sq (((3:Nat):Rat) / ((2:Nat):Rat))=⟨#[51,47,50]⟩from by decide +kernel]at h;exact h
theorem z2y (w:World)(hla:La w):CV w 17 #[.string ⟨#[50,53]⟩,.int .i64 7] (.tuple #[.agg #[.string ⟨#[53]⟩,.string ⟨#[53]⟩],.int .i64 0]):=by
 have h:=rG (x:=25) (n:=7) (k:=20) (by decide +kernel) (so20 (by decide +kernel) (by decide +kernel)) (by decide) (by decide) (by decide) (by decide) w hla;rw[z5H,z6w,z5u,show Sq (((35:Nat):Rat) / ((7:Nat):Rat))=⟨#[53]⟩from by decide +kernel]at h;exact h
theorem uf {a u b c:Rat}(ha:SmQ 20 a)(hu:SmQ 20 u)(hb:SmQ 20 b)(hc:SmQ 20 c)(u0:0≤u)(c0:0≤c)(hs:cmpQ a 0*cmpQ u 0=1)(ht:cmpQ b 0*cmpQ c 0 = -1)(w:World)(hl:Lb w) :
 (cmpQ (a*a*u) (b*b*c)=1→CV w 52 #[.agg #[.string (Sq a),.string (Sq u)],.agg #[.string (Sq b),.string (Sq c)]] (.tuple #[.int .i64 1,.int .i64 0])) ∧
 (cmpQ (a*a*u) (b*b*c) = -1→CV w 52 #[.agg #[.string (Sq a),.string (Sq u)],.agg #[.string (Sq b),.string (Sq c)]] (.tuple #[.int .i64 (-1),.int .i64 0])):=by
 obtain⟨hla,hst⟩:=hl;have v1:=vcv ha (by decide) w hla;have v2:=vcv hu (by decide) w hla;have v3:=vcv hb (by decide) w hla;have v4:=vcv hc (by decide) w hla;have g1:=kE hu (by decide) w hla;have g2:=kE hc (by decide) w hla;have t1:=mI ha hu (by decide) w hla;have t2:=mI hb hc (by decide) w hla;have f1:=eZ u0;have f2:=eZ c0;have q1:=kr ha hu (by decide) w hla;have q2:=kr hb hc (by decide) w hla;have qo:=rE (x:=a*a*u) (y:=b*b*c) rfl (((ha.mul ha).mul hu).fit (by decide)) (((hb.mul hb).mul hc).fit (by decide)) w hla;rw[hs]at t1;rw[ht]at t2;refine⟨fun e=>?_,fun e=>?_⟩<;>rw[e]at qo
 · exact z2E _ _ _ _ _ _ _ _ w v1 v2 v3 v4 g1 g2 t1 t2 q1 q2 qo f1 f2 hst
 · exact z2F _ _ _ _ _ _ _ _ w v1 v2 v3 v4 g1 g2 t1 t2 q1 q2 qo f1 f2 hst
theorem z4y (w:World)(hl:Lb w):CV w 18 #[.string ⟨#[51]⟩,.string ⟨#[45,50]⟩,.string ⟨#[50]⟩] (.tuple #[.int .i64 1,.int .i64 0]):=by
 have h:=(uf (a:=3) (u:=1) (b := -2) (c:=2) (so20 (by decide +kernel) (by decide +kernel)) (so20 (by decide +kernel) (by decide +kernel)) (so20 (by decide +kernel) (by decide +kernel)) (so20 (by decide +kernel) (by decide +kernel)) (by decide +kernel) (by decide +kernel) (by decide +kernel) (by decide +kernel) w hl).1 (by decide +kernel);rw[z5f,oq_3,z6j,oq_2]at h;exact z0F _ _ _ _ _ w h
theorem yK (w:World)(hl:Lb w):CV w 19 #[.string ⟨#[50]⟩,.string ⟨#[51]⟩,.string ⟨#[51]⟩,.string ⟨#[50]⟩] (.tuple #[.int .i64 (-1),.int .i64 0]):=by
 have h:=(uf (a:=2) (u:=3) (b := -3) (c:=2) (so20 (by decide +kernel) (by decide +kernel)) (so20 (by decide +kernel) (by decide +kernel)) (so20 (by decide +kernel) (by decide +kernel)) (so20 (by decide +kernel) (by decide +kernel)) (by decide +kernel) (by decide +kernel) (by decide +kernel) (by decide +kernel) w hl).2 (by decide +kernel)
 have h1:CV w 53 #[.string ⟨#[48]⟩,.string (Sq 3)] (.tuple #[.string (Sq (-3)),.int .i64 0]):=fun W hW=>by
  have g:=qSub 0 3 (-3) (by decide +kernel) ((show SmQ 1 (0:Rat) from⟨by unfold Sm;decide,by unfold Sm;decide⟩).fit (by decide)) ((so20 (by decide +kernel) (by decide +kernel)).fit (by decide)) W (hl.1.on hW);rwa [zZ]at g
 rw[oq_2,oq_3]at h;rw[oq_3]at h1;exact uh _ _ _ _ _ _ _ w h1 h
theorem xu:tL (9 / 4)=3 / 2:=by
 unfold tL
 rw[show((9:Rat) / 4).num.natAbs=9 from by decide +kernel,show((9:Rat) / 4).den=4 from by decide +kernel,mW (n:=9) (s:=3) (by decide) (by decide),mW (n:=4) (s:=2) (by decide) (by decide)];decide +kernel
theorem z2B (w:World)(hla:La w):CV w 20 #[.string ⟨#[57,47,52]⟩] (.tuple #[.string ⟨#[51,47,50]⟩,.bool true,.int .i64 0]):=by
 have h:=yU (x:=9 / 4) (k:=20) (by decide +kernel) (so20 (by decide +kernel) (by decide +kernel)) (by decide) (by decide) (by rw[xu];decide +kernel) w hla;rw[xu,z3X,z5t]at h;exact h
theorem z6i (w:World)(hla:La w):CV w 21 #[.agg #[.string ⟨#[50]⟩,.string ⟨#[57]⟩],.int .i64 10] (.tuple #[.agg #[.string ⟨#[55,47,53]⟩,.string ⟨#[51]⟩],.int .i64 0]):=by
 have h:=z5w (x:=2) (y:=9) (n:=10) (k:=20) (by decide +kernel) (by decide +kernel) (so20 (by decide +kernel) (by decide +kernel)) (so20 (by decide +kernel) (by decide +kernel)) (by decide) (by decide) (by decide) (by decide) w hla;rw[e2_k,e9_h,oq_2,oq_9,show Sq (((14:Nat):Rat) / ((10:Nat):Rat))=⟨#[55,47,53]⟩from by decide +kernel,show Sq (((30:Nat):Rat) / ((10:Nat):Rat))=⟨#[51]⟩from by decide +kernel]at h;exact h
theorem z4z (g:Nat)(w:World)(hla:La w)(k:SBk w g #[.string ⟨#[51]⟩,.string ⟨#[52]⟩] 25):CV w 7 #[.slice (some ⟨g,0,none⟩) 2 2,.int .i64 7] (.tuple #[.agg #[.string ⟨#[53]⟩,.string ⟨#[53]⟩],.int .i64 0]):=by
 have f0:FitQ (0:Rat):=(show SmQ 1 (0:Rat) from⟨by unfold Sm;decide,by unfold Sm;decide⟩).fit (by decide);have f:∀ {q:Rat},q.num.natAbs<1000→q.den<1000→FitQ q:=fun h1 h2=>(so20 h1 h2).fit (by decide);have v3:=vcv (x:=3) (so20 (by decide +kernel) (by decide +kernel)) (by decide) w hla;have v4:=vcv (x:=4) (so20 (by decide +kernel) (by decide +kernel)) (by decide) w hla;have t1:=fZ (x:=3) (y:=3) (z:=9) (by decide +kernel) (f (by decide +kernel) (by decide +kernel)) (f (by decide +kernel) (by decide +kernel)) w hla;have p1:=lU (x:=0) (y:=9) (z:=9) (by decide +kernel) f0 (f (by decide +kernel) (by decide +kernel)) w hla;have t2:=fZ (x:=4) (y:=4) (z:=16) (by decide +kernel) (f (by decide +kernel) (by decide +kernel)) (f (by decide +kernel) (by decide +kernel)) w hla;have p2:=lU (x:=9) (y:=16) (z:=25) (by decide +kernel) (f (by decide +kernel) (by decide +kernel)) (f (by decide +kernel) (by decide +kernel)) w hla;rw[oq_3]at v3 t1;rw[oq_4]at v4 t2;rw[oq_9]at t1 p1 p2;rw[zZ]at p1;rw[z6k]at t2 p2;rw[z5u]at p2;exact yQ g _ _ _ _ _ _ _ _ _ _ w v3 t1 p1 v4 t2 p2 (z2y w hla) k
theorem gT  (w₀:World)  (hla:Lb w₀) :
 CV w₀ 5 #[] (.bool true):=by
 intro w hw;have HT:=hid (jq hla hw);clear hla hw;go_enter Tryz.func5,Tryz.ntmps5
 have wo:=hid (Below.refl w.heap.size w);go_wp2_with fail
 with_reducible refine((z2A _ (jq HT.o wo.o).1).at).mono ?_
 rintro e W1 ⟨rfl,hb⟩;have u6:=hbt wo hb;clear hb;go_upto_region 2 with fail
 refine aG W1 [(#[.string ⟨#[55,47,53]⟩,.string ⟨#[51,47,50]⟩],27)] rfl ?_;have L1:=u6.o.size;rintro W2 ⟨k1,hb⟩;have hb:Below W1.heap.size W1 W2:=hb;have w9:=hbt u6 hb;have K1:=hid k1;clear k1 hb;go_wp2_with fail
 with_reducible refine((z2z _ (jq HT.o w9.o).1).at).mono ?_
 rintro e W3 ⟨rfl,hb⟩;have K1:=hid (K1.o.below hb);have si:=hbt w9 hb;clear hb;go_upto_region 3 with fail
 refine aG W3 [(#[.string ⟨#[51,47,50]⟩,.string ⟨#[51,47,50]⟩],27)] rfl ?_;have L2:=K1.o.lt;have L3:=si.o.size;rintro W4 ⟨k2,hb⟩;have hb:Below W3.heap.size W3 W4:=hb;have K1:=hid (K1.o.below hb);have sj:=hbt si hb;have K2:=hid k2;clear k2 hb;go_wp2_with fail
 with_reducible refine((z4y _ (jq HT.o sj.o)).at).mono ?_
 rintro e W5 ⟨rfl,hb⟩;obtain ⟨K1,K2⟩:=aM hb K1 K2;have rq:=hbt sj hb;clear hb;go_wp2_with fail
 with_reducible refine((yK _ (jq HT.o rq.o)).at).mono ?_
 rintro e W6 ⟨rfl,hb⟩;obtain ⟨K1,K2⟩:=aM hb K1 K2;have ru:=hbt rq hb;clear hb;go_wp2_with fail
 with_reducible refine((z2B _ (jq HT.o ru.o).1).at).mono ?_
 rintro e W7 ⟨rfl,hb⟩;obtain ⟨K1,K2⟩:=aM hb K1 K2;have rM:=hbt ru hb;clear hb;go_wp2_with fail
 with_reducible refine((z6i _ (jq HT.o rM.o).1).at).mono ?_
 rintro e W8 ⟨rfl,hb⟩;obtain ⟨K1,K2⟩:=aM hb K1 K2;have rV:=hbt rM hb;clear hb;go_upto_region 7 with fail
 refine aG W8 [(#[.string ⟨#[55,47,53]⟩,.string ⟨#[51]⟩],27)] rfl ?_;have L4:=K1.o.lt;have L5:=K2.o.lt;have L6:=rV.o.size;rintro W9 ⟨k3,hb⟩;have hb:Below W8.heap.size W8 W9:=hb;obtain ⟨K1,K2⟩:=aM hb K1 K2;have pq:=hbt rV hb;have K3:=hid k3;clear k3 hb;go_wp2_with fail
 have hb:=om W9 (.cells #[.string ⟨#[51]⟩,.string ⟨#[52]⟩] 25);have k4:=SBk.new W9 #[.string ⟨#[51]⟩,.string ⟨#[52]⟩] 25;generalize W9.alloc (.cells #[.string ⟨#[51]⟩,.string ⟨#[52]⟩] 25)=W10 at *;obtain ⟨K1,K2,K3⟩:=bX hb K1 K2 K3;have p8:=hbt pq hb;have K4:=hid k4;clear k4 hb;with_reducible refine((z4z _ _ (jq HT.o p8.o).1 K4.o).at).mono ?_
 rintro e W11 ⟨rfl,hb⟩;obtain ⟨K1,K2,K3,K4⟩:=bD hb K1 K2 K3 K4;have p9:=hbt p8 hb;clear hb;go_upto_region 8 with fail
 refine aG W11 [(#[.string ⟨#[53]⟩,.string ⟨#[53]⟩],27)] rfl ?_;have L7:=K1.o.lt;have L8:=K2.o.lt;have L9:=K3.o.lt;have L10:=K4.o.lt;have L11:=p9.o.size;rintro W12 ⟨k5,hb⟩;have hb:Below W11.heap.size W11 W12:=hb;obtain ⟨K1,K2,K3⟩:=bX hb K1 K2 K3;have pu:=hbt p9 hb;have K5:=hid k5;clear k5 hb;obtain ⟨wu,ww⟩:=ay K1.o rfl rfl;obtain ⟨ol,oM⟩:=ay K2.o rfl rfl;obtain ⟨oV,mf⟩:=ay K3.o rfl rfl;obtain ⟨mi,l5⟩:=ay K5.o rfl rfl;go_wp2;exact bodyPost_ret (v:=.bool true) (by simp[results,Tryz.results5,go_sem]) rfl ⟨rfl,pu.o⟩
def NuI (k j:Nat) (s:ByteArray):Prop:=j≤k∧(0<j→Lib.decDigits j++s.data.toList=Lib.decDigits k)∧(j=0→s.data.toList=Lib.decDigits k)
theorem NuI.size {k j:Nat}{s:ByteArray}(h:NuI k j s)(hk:k<10^6):s.size≤6:=by
 have hl:=nZ 6 k hk (by decide);rw[← aB];rcases Nat.eq_zero_or_pos j with h0|h0
 · rw[h.2.2 h0];exact hl
 · have:=congrArg List.length (h.2.1 h0)
   rw[List.length_append]at this;omega
theorem e_ex {x:Rat}{n:Nat}(hx:0≤x)(hn:1≤n)(h:eX x n=true):eH x n=eK x n∧(eK x n:Rat) / (n:Rat)*((eK x n:Rat) / (n:Rat))=x:=by
 have h1:=(z1i (n:=n) hx).2.2 h;refine⟨h1.1,?_⟩;have hp:=ig hn;have h2:=h1.2;grind
theorem e_ne {x:Rat}{n:Nat}(hx:0≤x)(hn:1≤n)(h:eX x n=false):((eH x n:Nat):Rat)=(eK x n:Rat)+1∧(eK x n:Rat) / (n:Rat)*((eK x n:Rat) / (n:Rat))<x∧x<(eH x n:Rat) / (n:Rat)*((eH x n:Rat) / (n:Rat)):=by
 have h1:=(z1i (n:=n) hx).2.1 h;have hp:=qV hn;have hpp:=Rat.mul_pos hp hp;have hs:∀ a:Rat,(a / (n:Rat))*(a / (n:Rat))*((n:Rat)*(n:Rat))=a*a:=by intro a;grind
 refine⟨h1.1,?_,?_⟩
 · have h2:=h1.2.1
   rw[← hs]at h2;exact(Rat.mul_lt_mul_right hpp).1 h2
 · have h2:=h1.2.2
   rw[← hs (eH x n:Rat)]at h2;exact(Rat.mul_lt_mul_right hpp).1 h2
theorem z5W {x:Rat}{n k:Nat}(h0:0≤x)(hx:SmQ k x)(hn:Sm 10 n)(hk:1≤k):Sm (k+22) (eH x n):=by
 have h:=z08 h0 hx hn hk;unfold eH
 split
 · exact h.mono (by omega)
 · exact h.add ((show Sm 1 1 by unfold Sm;decide).mono (by omega))
