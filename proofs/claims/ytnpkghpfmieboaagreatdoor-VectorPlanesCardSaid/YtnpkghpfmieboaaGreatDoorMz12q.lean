/- texts -/
import Derived.Test.YtnpkghpfmieboaaGreatDoorMz10q
import Derived.Deep.LoopGhost
import Derived.Test.YtnpkghpfmieboaaGreatDoorMz11q
namespace Go.Proofs.YtnpkghpfmieboaaGreatDoor
open Go.RowKit Go.Gb
def z5m (a b:Nat):Prop:=∀ (v1 v2:Value) (w:World),Rd .u64 w v1 (aa a)→Rd .u64 w v2 (aa b) →
    Calls Tryz.prog 238 #[v1,v2] w fun e w'=>∃ v,e=.returned v∧Own .u64 136 w.heap.size w' v (aa (a+b))∧Below w.heap.size w w'
open Go.Lib (hid)
theorem iE {a b K:Nat}(ha:(aa a).length≤K)(hb:(aa b).length≤K):(aa (a+b)).length≤K+1:=by
 refine bQ ?_;have h1:=dK a;have h2:=dK b;have h3:BB^(aa a).length≤BB^K:=Nat.pow_le_pow_right bR ha;have h4:BB^(aa b).length≤BB^K:=Nat.pow_le_pow_right bR hb;have h6:BB^(K+1)=BB^K*BB:=Nat.pow_succ BB K;have h7:BB^K*2≤BB^K*BB:=Nat.mul_le_mul_left _ pE;generalize BB^K=P at *;generalize BB^(K+1)=Q at *;omega
set_option maxHeartbeats 2000000 in
theorem z3d (a b:ByteArray)(ha:vld a.data.toList=true)(hb:vld b.data.toList=true)(hs:19≤a.size∨19≤b.size)(hla:a.size≤100000)(hlb:b.size≤100000)(hok:z5m (aJ a.data.toList) (aJ b.data.toList))(w:World)(htab:Tb w) :
 CR 226 #[.string a,.string b] w (.tuple #[St (Lib.decDigits (aJ a.data.toList+aJ b.data.toList)),.int .i64 0]):=by
 obtain ⟨HA,HB,HT,HOK⟩:=aL ha hb htab hok;have Hla:=hid (show a.size≤maxLen by unfold maxLen;omega);have Hlb:=hid (show b.size≤maxLen by unfold maxLen;omega);have hra:=hid (bI ha);have hrb:=hid (bI hb)
 have hlp:(aa (aJ a.data.toList+aJ b.data.toList)).length≤100000:=by
  have g1:=dH (bI ha) 20000 (by rw[aG];omega);have g2:=dH (bI hb) 20000 (by rw[aG];omega);have g3:=iE g1 g2;omega
 have HLP:=hid hlp;have hmx:¬ max (a.size:Int) (b.size:Int)<19:=by omega
 clear ha hb htab hok hlp hs;go_enter Tryz.func226,Tryz.ntmps226
 go_wp2_with fail
 refine(bW a HA.o Hla.o _).mono ?_;rintro e w' ⟨rfl,rfl⟩;go_wp2_with fail
 refine(bW b HB.o Hlb.o _).mono ?_;rintro e w' ⟨rfl,rfl⟩;go_wp2_with fail
 refine(gJ a hra.o hla _).mono ?_;rintro e w1 ⟨v1,rfl,ho1,hb1⟩;have u6:=hid hb1;have HO1:=hid ho1;clear hb1 ho1;go_wp2_with fail
 refine(gJ b hrb.o hlb _).mono ?_;rintro e w2 ⟨v2,rfl,ho2,hb2⟩;have wo:=hbt u6 hb2;have hm:=hid (HOK.o v1 v2 w2 (HO1.o.rd.below hb2) ho2.rd);clear hb2 ho2;go_wp2_with fail
 refine hm.o.mono ?_;rintro e w3 ⟨v3,rfl,ho3,hb3⟩;have w9:=hbt wo hb3;have hwr:=hid (j6 v3 _ HLP.o w3 ho3.rd (HT.o.on w9.o));clear hb3 ho3;go_wp2_with fail
 refine hwr.o.mono ?_;rintro e w4 ⟨rfl,hb4⟩;have ww:=hbt w9 hb4;clear hb4;go_wp2;go_ret2
 exact⟨rfl,ww.o⟩
set_option maxHeartbeats 2000000 in
theorem xg (v1 v2:Value)(a b:Nat)(hab:¬ a<b)(hlb:2≤(aa b).length)(hl:(aa a).length≤90000)(w:World)(h1:Rd .u64 w v1 (aa a))(h2:Rd .u64 w v2 (aa b)) :
 Calls Tryz.prog 216 #[v1,v2] w fun e w'=>∃ q r,e=.returned (.tuple #[q,r])∧Own .u64 136 w.heap.size w' q (aa (a / b))∧Own .u64 136 w.heap.size w' r (aa (a%b))∧Below w.heap.size w w':=by
 have hless:=nO v1 v2 a b (by omega) w h1 h2;rw[show decide (a<b)=false by simpa using hab]at hless;have hlong:=fun(w':World) (hb:Below w.heap.size w w')=>wI v1 v2 a b hlb (by omega) hl w' (h1.below hb) (h2.below hb);obtain⟨b2,o2,c2,rfl,_,_,k2,r2⟩:=dO h2 (by omega);generalize hn:(aa b).length=n at *;obtain ⟨HL,HD,Hn⟩:=ax hless hlong hn;have hne:((n:Int)==1)=false:=beq_eq_false_iff_ne.2 (by omega);clear hless h1 h2 hab hl hlong r2 hn;go_enter Tryz.func216,Tryz.ntmps216
 go_wp2_with fail
 refine HL.o.mono ?_;rintro e w1 ⟨rfl,hb1⟩;have HDw:=hid (HD.o w1 hb1);have u6:=hid hb1;clear hb1;go_wp2_with fail
 refine HDw.o.mono ?_;rintro e w2 ⟨q,r,rfl,hq,hr,hb2⟩;have HQ:=hid (hq.mono u6.o.size);have HR:=hid (hr.mono u6.o.size);have wo:=hbt u6 hb2;clear hq hr hb2;go_wp2;go_ret2
 exact⟨q,r,rfl,HQ.o,HR.o,wo.o⟩
theorem qI (v1 v2:Value)(a b:Nat)(hb:b≠0)(hl:(aa a).length≤90000)(w:World)(h1:Rd .u64 w v1 (aa a))(h2:Rd .u64 w v2 (aa b)) :
 Calls Tryz.prog 216 #[v1,v2] w fun e w'=>∃ q r,e=.returned (.tuple #[q,r])∧Own .u64 136 w.heap.size w' q (aa (a / b))∧Own .u64 136 w.heap.size w' r (aa (a%b))∧Below w.heap.size w w':=by
 by_cases hab:a<b
 · exact(xh v1 v2 a b hab (by omega) w h1 h2).mono fun e w' ⟨r,he,hr,hb⟩=>⟨_,r,he,by rw[Nat.div_eq_of_lt hab,aU];exact Own.nil _ _ _ _,by rw[Nat.mod_eq_of_lt hab];exact hr,hb⟩
 · rcases Nat.lt_or_ge (aa b).length 2 with h|h
   · exact xe v1 v2 a b hab (by have:0<(aa b).length:=by{ rw[bU hb];simp };omega) (by omega) w h1 h2
   · exact xg v1 v2 a b hab h hl w h1 h2
set_option maxHeartbeats 2000000 in
theorem xk (a b:ByteArray)(ha:vld a.data.toList=true)(hb:vld b.data.toList=true)(h0:aJ b.data.toList≠0)(hab:aJ b.data.toList≤aJ a.data.toList)(hla:19<a.size)(hla2:a.size≤90000)(w:World)(htab:Tb w) :
 CR 224 #[.string a,.string b] w (.tuple #[St (Lib.decDigits (aJ a.data.toList / aJ b.data.toList)),St (Lib.decDigits (aJ a.data.toList%aJ b.data.toList)),.int .i64 0]):=by
 have hlen:b.size≤a.size:=by
  rcases Nat.lt_or_ge a.size b.size with h|h
  · have:=eU ha hb (by rw[aG,aG];exact h)
    omega
  · exact h
 obtain ⟨HA,HB,HT⟩:=ax ha hb htab;have Hla:=hid (show a.size≤maxLen by unfold maxLen;omega);have Hlb:=hid (show b.size≤maxLen by unfold maxLen;omega);have hra:=hid (bI ha);have hrb:=hid (bI hb);have hne:=jy (b:=b) h0;have hcmp:=ib a b ha hb
 have hcc:cmpN (aJ a.data.toList) (aJ b.data.toList)=0∨cmpN (aJ a.data.toList) (aJ b.data.toList)=1:=by
  rcases Nat.lt_or_ge (aJ b.data.toList) (aJ a.data.toList) with h|h
  · exact Or.inr (iL h)
  · exact Or.inl (by rw[show aJ a.data.toList=aJ b.data.toList by omega];exact sK _)
 have hda:=dH (bI ha) 90000 (by rw[aG];omega);obtain ⟨HDA,HQ,HM,H0,HC⟩:=bA hda (Nat.le_trans (aN (Nat.div_le_self (aJ a.data.toList) (aJ b.data.toList))) hda) (Nat.le_trans (aN (Nat.mod_le (aJ a.data.toList) (aJ b.data.toList))) hda) h0 hcmp;have Ha9:=hid (show a.size≤100000 by omega);have Hb9:=hid (show b.size≤100000 by omega);have hl1:¬ (a.size:Int)≤19:=by omega
 have hl2:decide ((a.size:Int)≤19)=false:=decide_eq_false hl1
 have hc0:(cmpN (aJ a.data.toList) (aJ b.data.toList)<0)=False:=by
  rcases hcc with h|h<;>rw[h]<;>simp
 clear ha hb htab h0 hab hla hla2 hlen hcmp hda hcc;go_enter Tryz.func224,Tryz.ntmps224
 go_wp2_with fail
 refine(bW a HA.o Hla.o _).mono ?_;rintro e w' ⟨rfl,rfl⟩;go_wp2_with fail
 refine(bW b HB.o Hlb.o _).mono ?_;rintro e w' ⟨rfl,rfl⟩;go_wp2_with fail
 refine(HC.o _).mono ?_;rintro e w' ⟨rfl,rfl⟩;generalize cmpN (aJ a.data.toList) (aJ b.data.toList)=cc at *;go_wp2_with fail
 refine(gJ a hra.o Ha9.o _).mono ?_;rintro e w1 ⟨v1,rfl,ho1,hb1⟩;have u6:=hid hb1;have HO1:=hid ho1;clear hb1 ho1;go_wp2_with fail
 refine(gJ b hrb.o Hb9.o _).mono ?_;rintro e w2 ⟨v2,rfl,ho2,hb2⟩;have wo:=hbt u6 hb2;have hm:=hid (qI v1 v2 _ _ H0.o HDA.o w2 (HO1.o.rd.below hb2) ho2.rd);clear hb2 ho2;go_wp2_with fail
 refine hm.o.mono ?_;rintro e w3 ⟨q,r,rfl,hq,hr,hb3⟩;have w9:=hbt wo hb3;have hwq:=hid (j6 q _ (by have:=HQ.o;omega) w3 hq.rd (HT.o.on w9.o));have HR:=hid hr;clear hb3 hq hr;go_wp2_with fail
 refine hwq.o.mono ?_;rintro e w4 ⟨rfl,hb4⟩;have hwr:=hid (j6 r _ (by have:=HM.o;omega) w4 (HR.o.rd.below hb4) (HT.o.on (w9.o.trans (hb4.mono w9.o.size))));have ww:=hbt w9 hb4;clear hb4;go_wp2_with fail
 refine hwr.o.mono ?_;rintro e w5 ⟨rfl,hb5⟩;have wy:=hbt ww hb5;clear hb5;go_wp2;go_ret3
 exact⟨rfl,wy.o⟩
theorem zL (a b:ByteArray)(ha:vld a.data.toList=true)(hb:vld b.data.toList=true)(h0:aJ b.data.toList≠0)(hla:a.size≤90000)(hlb:b.size≤90000)(w:World)(htab:Tb w) :
 CR 224 #[.string a,.string b] w (.tuple #[St (Lib.decDigits (aJ a.data.toList / aJ b.data.toList)),St (Lib.decDigits (aJ a.data.toList%aJ b.data.toList)),.int .i64 0]):=by
 rcases Nat.lt_or_ge (aJ a.data.toList) (aJ b.data.toList) with hab|hab
 · refine(xm a b ha hb hab (by unfold maxLen;omega) (by unfold maxLen;omega) w).mono fun e w' ⟨he,hw⟩=>⟨?_,hw▸Below.refl _ _⟩
   have hs:Value.string a=St a.data.toList:=by cases a;simp[St]
   have h0:Lib.decDigits 0=[48]:=jS [48] (by decide);rw[he,Nat.div_eq_of_lt hab,Nat.mod_eq_of_lt hab,jS _ ha,h0,hs]
 · rcases Nat.lt_or_ge 19 a.size with hs|hs
   · exact xk a b ha hb h0 hab hs hla w htab
   · exact uZ a b ha hb h0 hab hs w htab
end Go.Proofs.YtnpkghpfmieboaaGreatDoor
set_option maxRecDepth 100000
set_option maxHeartbeats 20000000
open Go.Lib (hid)
namespace Go.Proofs.YtnpkghpfmieboaaGreatDoor
open Go.RowKit Go.Gb
theorem z1h {a b c:Nat}{os:List Nat}(hs:dA (aa a) (aa b) os (aa a).length c)(hl:(aa b).length≤(aa a).length):aj (os++[c])=a+b∧∀ x∈os++[c],x<BB:=by
 obtain⟨h1,h2⟩:=hs.done hl;rw[aB,aB]at h1;exact⟨h1,h2⟩
theorem ym (v1 v2:Value)(a b:Nat)(ha:a≠0)(hlb:(aa b).length≤(aa a).length)(hl:(aa a).length≤10000)(w:World)(h1:Rd .u64 w v1 (aa a))(h2:Rd .u64 w v2 (aa b)) :
 Calls Tryz.prog 243 #[v1,v2,.func (.func 245) #[.pointer (some ⟨w.heap.size,0,none⟩)] #[]] (w.alloc (.cells #[.int .u64 0] 264)) fun e w' =>
  ∃ v,e=.returned v∧∃ (os:List Nat) (c:Nat),aj (os++[c])=a+b∧(∀ x∈os++[c],x<BB)∧os.length=(aa a).length∧Own .u64 136 (w.heap.size+1) w' v os∧Car w' w.heap.size c∧Below w.heap.size w w':=by
 obtain⟨b1,o1,c1,rfl,_,_,k1,r1⟩:=dO h1 (List.length_pos_iff.2 (by rw[bU ha];simp));have hb0:=(Below.refl w.heap.size w).alloc (Nat.le_refl _) (.cells #[.int .u64 0] 264);have hcx:∀ i,i<(aa a).length→(w.alloc (.cells #[.int .u64 0] 264)).cell? ⟨b1,o1+i,none⟩=some (.int .u64 (((aa a).getD i 0:Nat):Int)):=fun i hi=>(hb0.cell (p:=⟨b1,o1+i,none⟩) k1).trans (r1 i hi);have hz:(w.alloc (.cells #[.int .u64 0] 264)).heap.size=w.heap.size+1:=by simp
 have fin:∀ (e:Ending) (w':World),(e=.returned (.slice (some ⟨w.heap.size+1,0,none⟩) (aa a).length ((aa a).length+1))∧∃ (os:List Nat) (c:Nat),dA (aa a) (aa b) os (aa a).length c∧Blk w' (w.heap.size+1) (os++[0])∧Car w' w.heap.size c∧(w.alloc (.cells #[.int .u64 0] 264)).grownBy w' (some w.heap.size)) →
  ∃ v,e=.returned v∧∃ (os:List Nat) (c:Nat),aj (os++[c])=a+b∧(∀ x∈os++[c],x<BB)∧os.length=(aa a).length∧Own .u64 136 (w.heap.size+1) w' v os∧Car w' w.heap.size c∧Below w.heap.size w w':=by
  rintro e w' ⟨he,os,c,hs,hblk,hc,hg⟩;obtain⟨g1,g2⟩:=z1h hs hlb;have hlen:=hs.1;have hown:=hblk.own (B:=w.heap.size+1) (by omega) (by unfold maxLen;simp;omega) os.length (by simp);rw[List.take_left,hlen,List.length_append,List.length_singleton,hlen]at hown;exact⟨_,he,os,c,g1,g2,hlen,hown,hc,hb0.grown hg (by simp) (fun k hk=>by cases hk;exact Nat.le_refl _)⟩
 rcases h2 with⟨rfl,h2⟩|⟨b2,o2,c2,rfl,_,_,k2,r2⟩
 · have:=rR dA w.heap.size b1 o1 c1 none 0 (aa a) (aa b) (by omega) (w.alloc (.cells #[.int .u64 0] 264)) (z0p _ _ _ (aS a) (aS b)) (dA.start _ _) (fun os i c h=>h.1) (lI w) (by rw[hz];omega) (by omega) hcx (by rw[h2];simp)
   rw[hz,h2]at this;rw[h2]at fin;exact this.mono fin
 · have:=pO dA w.heap.size b1 o1 c1 b2 o2 c2 (aa a) (aa b) (by omega) (w.alloc (.cells #[.int .u64 0] 264)) (z0p _ _ _ (aS a) (aS b)) (dA.start _ _) (fun os i c h=>h.1) (lI w) (by rw[hz];omega) (by omega) hcx (by rw[hz];omega) (by omega) (fun i hi=>(hb0.cell (p:=⟨b2,o2+i,none⟩) k2).trans (r2 i hi))
   rw[hz]at this;exact this.mono fin
theorem z4t (a b:Nat)(hab:a≠0∨b≠0)(hla:(aa a).length≤10000)(hlb:(aa b).length≤10000):z5m a b:=by
 intro v1 v2 w h1 h2;obtain⟨i0,hi,hz0,hz1,hz2⟩:=info_parts Tryz.info136;by_cases hlt:(aa a).length<(aa b).length
 · have hb:b≠0:=by intro h;rw[h,aU]at hlt;simp at hlt
   have HJ:=hid (ym v2 v1 b a hb (by omega) hlb w h2 h1);rw[Nat.add_comm b a]at HJ;clear hb;obtain⟨a1,c1,rfl⟩:=aX h1;obtain⟨a2,c2,rfl⟩:=aX h2;have Hl:=hid hlb;clear h1 h2 hab hla hlb;generalize a+b=s at *;generalize (aa a).length=m at *;generalize (aa b).length=n at *;go_enter Tryz.func238,Tryz.ntmps238
   go_wp2_with fail
   refine HJ.o.mono ?_;rintro e w1 ⟨v,rfl,os,c,g1,g2,g3,hown,hcar,hbw⟩;have hc1:=cell_of_one hcar;obtain ⟨HG1,HG2,HG3⟩:=ax g1 g2 g3;have HOW:=hid (show w1.ownsRow (w.heap.size+1) 136 1 v os.length (cls .u64 os) from hown);have wu:=hid hbw;have HSZ:=hid hcar.lt;clear g1 g2 g3 hown hcar hbw;go_wp2_with (at_builtin;refine wpList_append_own _ rfl _ _ 172 rfl (w.heap.size+1) 136 i0 (.int .u64 0) 1 8 Tryz.underlying172 hi hz0 hz1 hz2 rfl (by decide) _ _ _ rfl (HOW.o.alloc _) ⟨w1.heap.size,0,none⟩ 1 1 [.int .u64 (c:Int)] rfl rfl (cells_one _ _ _) (by intro u hu;simp at hu;subst hu;rfl) (by have:=HG3.o;have:=Hl.o;unfold maxLen;omega) (by have:=HG3.o;have:=Hl.o;omega) (by have:=HSZ.o;simp;omega) ?_)
   intro v' w2 hown' hgrow _;have hox:Own .u64 136 w.heap.size w2 v' (os++[c]):=(show Own .u64 136 (w.heap.size+1) w2 v' (os++[c]) by unfold Own;rw[df,List.length_append];exact hown').mono (Nat.le_succ _);have htr:=fI 136 w.heap.size v' (os++[c]) HG2.o w2 hox;rw[HG1.o]at htr;have HTR:=hid htr;have HN:=hid ((wu.o.alloc wu.o.size (.cells #[.int .u64 (c:Int)] 136)).grown hgrow (by have:=HSZ.o;simp;omega) (fun k hk=>Nat.le_of_succ_le (HOW.o.lt k hk).1));clear hox htr hown' hgrow;go_wp2_with fail
   refine HTR.o.mono ?_;rintro e w3 ⟨v3,rfl,hown,rfl⟩;go_wp2;go_ret
   exact⟨v3,rfl,hown,HN.o⟩
 · have ha:a≠0:=by
    intro h;rw[h,aU]at hlt;rcases hab with h2|h2
    · exact h2 h
    · have:=List.length_pos_iff.2 (show aa b≠[]by rw[bU h2];simp)
      simp at hlt;rw[hlt]at this;simp at this
   have HJ:=hid (ym v1 v2 a b ha (by omega) hla w h1 h2);clear ha;obtain⟨a1,c1,rfl⟩:=aX h1;obtain⟨a2,c2,rfl⟩:=aX h2;have Hl:=hid hla;clear h1 h2 hab hla hlb;generalize a+b=s at *;generalize (aa a).length=m at *;generalize (aa b).length=n at *;go_enter Tryz.func238,Tryz.ntmps238
   go_wp2_with fail
   refine HJ.o.mono ?_;rintro e w1 ⟨v,rfl,os,c,g1,g2,g3,hown,hcar,hbw⟩;have hc1:=cell_of_one hcar;obtain ⟨HG1,HG2,HG3⟩:=ax g1 g2 g3;have HOW:=hid (show w1.ownsRow (w.heap.size+1) 136 1 v os.length (cls .u64 os) from hown);have wu:=hid hbw;have HSZ:=hid hcar.lt;clear g1 g2 g3 hown hcar hbw;go_wp2_with (at_builtin;refine wpList_append_own _ rfl _ _ 172 rfl (w.heap.size+1) 136 i0 (.int .u64 0) 1 8 Tryz.underlying172 hi hz0 hz1 hz2 rfl (by decide) _ _ _ rfl (HOW.o.alloc _) ⟨w1.heap.size,0,none⟩ 1 1 [.int .u64 (c:Int)] rfl rfl (cells_one _ _ _) (by intro u hu;simp at hu;subst hu;rfl) (by have:=HG3.o;have:=Hl.o;unfold maxLen;omega) (by have:=HG3.o;have:=Hl.o;omega) (by have:=HSZ.o;simp;omega) ?_)
   intro v' w2 hown' hgrow _;have hox:Own .u64 136 w.heap.size w2 v' (os++[c]):=(show Own .u64 136 (w.heap.size+1) w2 v' (os++[c]) by unfold Own;rw[df,List.length_append];exact hown').mono (Nat.le_succ _);have htr:=fI 136 w.heap.size v' (os++[c]) HG2.o w2 hox;rw[HG1.o]at htr;have HTR:=hid htr;have HN:=hid ((wu.o.alloc wu.o.size (.cells #[.int .u64 (c:Int)] 136)).grown hgrow (by have:=HSZ.o;simp;omega) (fun k hk=>Nat.le_of_succ_le (HOW.o.lt k hk).1));clear hox htr hown' hgrow;go_wp2_with fail
   refine HTR.o.mono ?_;rintro e w3 ⟨v3,rfl,hown,rfl⟩;go_wp2;go_ret
   exact⟨v3,rfl,hown,HN.o⟩
def Sn (n:Nat):ByteArray:=⟨(Lib.decDigits n).toArray⟩
theorem dh (n:Nat):(Sn n).data.toList=Lib.decDigits n:=by simp[Sn]
theorem eQ (n:Nat):vld (Sn n).data.toList=true:=by rw[dh];exact nT n
theorem cB (n:Nat):aJ (Sn n).data.toList=n:=by rw[dh];exact fT n
theorem z5v {a:ByteArray}(h:vld a.data.toList=true):a=Sn (aJ a.data.toList):=by
 cases a with
 | mk d =>
   unfold Sn
   congr 1
   rw[jS _ h]
theorem z3j {x y:Nat}(h:Sn x=Sn y):x=y:=by rw[← cB x,← cB y,h]
def Sm (k n:Nat):Prop:=n<10^k
theorem Sm.mono {k l n:Nat}(h:Sm k n)(hkl:k≤l):Sm l n:=Nat.lt_of_lt_of_le h (Nat.pow_le_pow_right (by decide) hkl)
theorem Sm.le {k m n:Nat}(h:Sm k n)(hmn:m≤n):Sm k m:=Nat.lt_of_le_of_lt hmn h
theorem Sm.add {k m n:Nat}(hm:Sm k m)(hn:Sm k n):Sm (k+1) (m+n):=by
 unfold Sm at *;rw[Nat.pow_succ];omega
theorem Sm.mul {k l m n:Nat}(hm:Sm k m)(hn:Sm l n):Sm (k+l) (m*n):=by
 unfold Sm at *
 rw[Nat.pow_add];rcases Nat.eq_zero_or_pos n with h|h
 · rw[h,Nat.mul_zero];exact Nat.mul_pos (Nat.pow_pos (by decide)) (Nat.pow_pos (by decide))
 · exact Nat.mul_lt_mul_of_lt_of_le hm (Nat.le_of_lt hn) (Nat.pow_pos (by decide))
theorem Sm.of {a:ByteArray}(h:vld a.data.toList=true){k:Nat}(hl:a.size≤k):Sm k (aJ a.data.toList):=by
 have h1:=gX _ (bI h);exact Nat.lt_of_lt_of_le h1 (Nat.pow_le_pow_right (by decide) (by rw[aG];exact hl))
theorem su:∀ (k n:Nat),Sm k n→0<k→(Lib.decDigits n).length≤k
 | 0,_,_,h=>absurd h (by omega)
 | 1,n,h,_=>by
   have:n<10:=by simpa [Sm] using h
   rw[Lib.decDigits,dif_pos this];simp
 | k+2,n,h,_=>by
   by_cases h10:n<10
   · rw[Lib.decDigits,dif_pos h10];simp
   · rw[Lib.decDigits,dif_neg h10,List.length_append]
     have:=su (k+1) (n / 10) (by unfold Sm at *;rw[Nat.pow_succ]at h;omega) (by omega);simp;omega
theorem iH {k n:Nat}(h:Sm k n)(hk:0<k):(Sn n).size≤k:=by
 have:=su k n h hk;rw[← dh,aG]at this;exact this
theorem gU {k n:Nat}(h:Sm k n)(hk:0<k):(aa n).length≤k:=by
 have h1:=dH (bI (eQ n)) k (by rw[aG];have:=iH h hk;omega);rwa [cB]at h1
def Fit (n:Nat):Prop:=Sm 2000 n
theorem Fit.size {n:Nat}(h:Fit n):(Sn n).size≤2000:=iH h (by decide)
theorem Fit.max {n:Nat}(h:Fit n):(Sn n).size≤maxLen:=by have:=h.size;unfold maxLen;omega
theorem z3q (x:Nat)(hx:Fit x)(w:World) :
 Calls Tryz.prog 133 #[.string (Sn x)] w fun e w'=>e=.returned (.bool true)∧w=w' :=
 bW (Sn x) (eQ x) hx.max w
theorem rP (x y:Nat)(hx:Fit x)(hy:Fit y)(w:World) :
 Calls Tryz.prog 166 #[.string (Sn x),.string (Sn y)] w fun e w'=>e=.returned (.tuple #[.int .i64 (cmpN x y),.int .i64 0])∧w=w':=by
 have h:=xn (Sn x) (Sn y) (eQ x) (eQ y) hx.max hy.max w;rwa [cB,cB]at h
theorem nAdd (x y:Nat)(hx:Fit x)(hy:Fit y)(w:World)(htab:Tb w) :
 CR 226 #[.string (Sn x),.string (Sn y)] w (.tuple #[.string (Sn (x+y)),.int .i64 0]):=by
 have sx:=hx.size;have sy:=hy.size;by_cases hs:(Sn x).size≤18∧(Sn y).size≤18
 · have h:=z1s (Sn x) (Sn y) (eQ x) (eQ y) hs.1 hs.2 w htab
   rwa [cB,cB]at h
 · have hxy:x≠0∨y≠0:=by
    rcases Nat.eq_zero_or_pos x with h0|h0
    · rcases Nat.eq_zero_or_pos y with h1|h1
      · exfalso
        subst h0 h1;have:(Sn 0).size≤1:=iH (k:=1) (by simp[Sm]) (by decide);omega
      · right;omega
    · left;omega
   have h:=z3d (Sn x) (Sn y) (eQ x) (eQ y) (by omega) (by omega) (by omega) (by
    rw[cB,cB]
    exact z4t x y hxy (Nat.le_trans (gU hx (by decide)) (by decide)) (Nat.le_trans (gU hy (by decide)) (by decide))) w htab
   rwa [cB,cB]at h
theorem nSub (x y:Nat)(hx:Fit x)(hyx:y≤x)(w:World)(htab:Tb w) :
 CR 225 #[.string (Sn x),.string (Sn y)] w (.tuple #[.string (Sn (x-y)),.int .i64 0]):=by
 have sx:=hx.size;have sy:=Fit.size (Sm.le hx hyx);have h:=z4u (Sn x) (Sn y) (eQ x) (eQ y) (by rw[cB,cB];exact hyx) (by omega) (by omega) w htab;rwa [cB,cB]at h
theorem nMul (x y:Nat)(hx:Fit x)(hy:Fit y)(w:World)(htab:Tb w) :
 CR 168 #[.string (Sn x),.string (Sn y)] w (.tuple #[.string (Sn (x*y)),.int .i64 0]):=by
 have sx:=hx.size;have sy:=hy.size;have h:=z4v (Sn x) (Sn y) (eQ x) (eQ y) (by omega) (by omega) w htab;rwa [cB,cB]at h
theorem z3T (x y:Nat)(hx:Fit x)(hy:Fit y)(h0:y≠0)(w:World)(htab:Tb w) :
 CR 224 #[.string (Sn x),.string (Sn y)] w (.tuple #[.string (Sn (x / y)),.string (Sn (x%y)),.int .i64 0]):=by
 have sx:=hx.size;have sy:=hy.size;have h:=zL (Sn x) (Sn y) (eQ x) (eQ y) (by rw[cB];exact h0) (by omega) (by omega) w htab;rwa [cB,cB]at h
