/- texts -/
import Derived.Test.YtiiedknabcebdaaGreatDoorMz9q
import Derived.Deep.LoopGhost
import Derived.Test.YtiiedknabcebdaaGreatDoorKe
import Derived.Deep.RegionHeld3
import Derived.StillTailTactics
open Go.Proofs.Tryz
namespace Go.Proofs.YtiiedknabcebdaaGreatDoor
open Go.RowKit Go.Gb
def z4r (a b:Nat):Prop:=∀ (v1 v2:Value) (w:World),Rd .u64 w v1 (ae a)→Rd .u64 w v2 (ae b) →
    Calls Tryz.prog 228 #[v1,v2] w fun e w'=>∃ v,e=.returned v∧Own .u64 126 w.heap.size w' v (ae (a+b))∧Below w.heap.size w w'
open Go.Lib (hid)
theorem iA {a b K:Nat}(ha:(ae a).length≤K)(hb:(ae b).length≤K):(ae (a+b)).length≤K+1:=by
 refine bL ?_;have h1:=dF a;have h2:=dF b;have h3:BB^(ae a).length≤BB^K:=Nat.pow_le_pow_right bN ha;have h4:BB^(ae b).length≤BB^K:=Nat.pow_le_pow_right bN hb;have h6:BB^(K+1)=BB^K*BB:=Nat.pow_succ BB K;have h7:BB^K*2≤BB^K*BB:=Nat.mul_le_mul_left _ nX;generalize BB^K=P at *;generalize BB^(K+1)=Q at *;omega
set_option maxHeartbeats 2000000 in
theorem z2p (a b:ByteArray)(ha:vld a.data.toList=true)(hb:vld b.data.toList=true)(hs:19≤a.size∨19≤b.size)(hla:a.size≤100000)(hlb:b.size≤100000)(hok:z4r (aK a.data.toList) (aK b.data.toList))(w:World)(htab:Tb w) :
 CR 216 #[.string a,.string b] w (.tuple #[St (Lib.decDigits (aK a.data.toList+aK b.data.toList)),.int .i64 0]):=by
 obtain ⟨HA,HB,HT,HOK⟩:=aQ ha hb htab hok;have Hla:=hid (show a.size≤maxLen by unfold maxLen;omega);have Hlb:=hid (show b.size≤maxLen by unfold maxLen;omega);have hra:=hid (bI ha);have hrb:=hid (bI hb)
 have hlp:(ae (aK a.data.toList+aK b.data.toList)).length≤100000:=by
  have g1:=dC (bI ha) 20000 (by rw[aG];omega);have g2:=dC (bI hb) 20000 (by rw[aG];omega);have g3:=iA g1 g2;omega
 have HLP:=hid hlp;have hmx:¬ max (a.size:Int) (b.size:Int)<19:=by omega
 clear ha hb htab hok hlp hs;go_enter func216,ntmps216
 go_wp2_with fail
 refine(bP a HA.o Hla.o _).mono ?_;rintro e w' ⟨rfl,rfl⟩;go_wp2_with fail
 refine(bP b HB.o Hlb.o _).mono ?_;rintro e w' ⟨rfl,rfl⟩;go_wp2_with fail
 refine(gB a hra.o hla _).mono ?_;rintro e w1 ⟨v1,rfl,ho1,hb1⟩;have w9:=hid hb1;have HO1:=hid ho1;clear hb1 ho1;go_wp2_with fail
 refine(gB b hrb.o hlb _).mono ?_;rintro e w2 ⟨v2,rfl,ho2,hb2⟩;have wu:=hbt w9 hb2;have hm:=hid (HOK.o v1 v2 w2 (HO1.o.rd.below hb2) ho2.rd);clear hb2 ho2;go_wp2_with fail
 refine hm.o.mono ?_;rintro e w3 ⟨v3,rfl,ho3,hb3⟩;have wo:=hbt wu hb3;have hwr:=hid (iV v3 _ HLP.o w3 ho3.rd (HT.o.on wo.o));clear hb3 ho3;go_wp2_with fail
 refine hwr.o.mono ?_;rintro e w4 ⟨rfl,hb4⟩;have wy:=hbt wo hb4;clear hb4;go_wp2;go_ret2
 exact⟨rfl,wy.o⟩
set_option maxHeartbeats 2000000 in
theorem vB (v1 v2:Value)(a b:Nat)(hab:¬ a<b)(hlb:2≤(ae b).length)(hl:(ae a).length≤90000)(w:World)(h1:Rd .u64 w v1 (ae a))(h2:Rd .u64 w v2 (ae b)) :
 Calls Tryz.prog 206 #[v1,v2] w fun e w'=>∃ q r,e=.returned (.tuple #[q,r])∧Own .u64 126 w.heap.size w' q (ae (a / b))∧Own .u64 126 w.heap.size w' r (ae (a%b))∧Below w.heap.size w w':=by
 have hless:=mJ v1 v2 a b (by omega) w h1 h2;rw[show decide (a<b)=false by simpa using hab]at hless;have hlong:=fun(w':World) (hb:Below w.heap.size w w')=>uQ v1 v2 a b hlb (by omega) hl w' (h1.below hb) (h2.below hb);obtain⟨b2,o2,c2,rfl,_,_,k2,r2⟩:=dJ h2 (by omega);generalize hn:(ae b).length=n at *;obtain ⟨HL,HD,Hn⟩:=ax hless hlong hn;have hne:((n:Int)==1)=false:=beq_eq_false_iff_ne.2 (by omega);clear hless h1 h2 hab hl hlong r2 hn;go_enter func206,ntmps206
 go_wp2_with fail
 refine HL.o.mono ?_;rintro e w1 ⟨rfl,hb1⟩;have HDw:=hid (HD.o w1 hb1);have w9:=hid hb1;clear hb1;go_wp2_with fail
 refine HDw.o.mono ?_;rintro e w2 ⟨q,r,rfl,hq,hr,hb2⟩;have HQ:=hid (hq.mono w9.o.size);have HR:=hid (hr.mono w9.o.size);have wu:=hbt w9 hb2;clear hq hr hb2;go_wp2;go_ret2
 exact⟨q,r,rfl,HQ.o,HR.o,wu.o⟩
theorem oW (v1 v2:Value)(a b:Nat)(hb:b≠0)(hl:(ae a).length≤90000)(w:World)(h1:Rd .u64 w v1 (ae a))(h2:Rd .u64 w v2 (ae b)) :
 Calls Tryz.prog 206 #[v1,v2] w fun e w'=>∃ q r,e=.returned (.tuple #[q,r])∧Own .u64 126 w.heap.size w' q (ae (a / b))∧Own .u64 126 w.heap.size w' r (ae (a%b))∧Below w.heap.size w w':=by
 by_cases hab:a<b
 · exact(vC v1 v2 a b hab (by omega) w h1 h2).mono fun e w' ⟨r,he,hr,hb⟩=>⟨_,r,he,by rw[Nat.div_eq_of_lt hab,aS];exact Own.nil _ _ _ _,by rw[Nat.mod_eq_of_lt hab];exact hr,hb⟩
 · rcases Nat.lt_or_ge (ae b).length 2 with h|h
   · exact vz v1 v2 a b hab (by have:0<(ae b).length:=by{ rw[bO hb];simp };omega) (by omega) w h1 h2
   · exact vB v1 v2 a b hab h hl w h1 h2
set_option maxHeartbeats 2000000 in
theorem vD (a b:ByteArray)(ha:vld a.data.toList=true)(hb:vld b.data.toList=true)(h0:aK b.data.toList≠0)(hab:aK b.data.toList≤aK a.data.toList)(hla:19<a.size)(hla2:a.size≤90000)(w:World)(htab:Tb w) :
 CR 214 #[.string a,.string b] w (.tuple #[St (Lib.decDigits (aK a.data.toList / aK b.data.toList)),St (Lib.decDigits (aK a.data.toList%aK b.data.toList)),.int .i64 0]):=by
 have hlen:b.size≤a.size:=by
  rcases Nat.lt_or_ge a.size b.size with h|h
  · have:=eG ha hb (by rw[aG,aG];exact h)
    omega
  · exact h
 obtain ⟨HA,HB,HT⟩:=ax ha hb htab;have Hla:=hid (show a.size≤maxLen by unfold maxLen;omega);have Hlb:=hid (show b.size≤maxLen by unfold maxLen;omega);have hra:=hid (bI ha);have hrb:=hid (bI hb);have hne:=jm (b:=b) h0;have hcmp:=gU a b ha hb
 have hcc:cmpN (aK a.data.toList) (aK b.data.toList)=0∨cmpN (aK a.data.toList) (aK b.data.toList)=1:=by
  rcases Nat.lt_or_ge (aK b.data.toList) (aK a.data.toList) with h|h
  · exact Or.inr (iE h)
  · exact Or.inl (by rw[show aK a.data.toList=aK b.data.toList by omega];exact qK _)
 have hda:=dC (bI ha) 90000 (by rw[aG];omega);obtain ⟨HDA,HQ,HM,H0,HC⟩:=bQ hda (Nat.le_trans (aN (Nat.div_le_self (aK a.data.toList) (aK b.data.toList))) hda) (Nat.le_trans (aN (Nat.mod_le (aK a.data.toList) (aK b.data.toList))) hda) h0 hcmp;have Ha9:=hid (show a.size≤100000 by omega);have Hb9:=hid (show b.size≤100000 by omega);have hl1:¬ (a.size:Int)≤19:=by omega
 have hl2:decide ((a.size:Int)≤19)=false:=decide_eq_false hl1
 have hc0:(cmpN (aK a.data.toList) (aK b.data.toList)<0)=False:=by
  rcases hcc with h|h<;>rw[h]<;>simp
 clear ha hb htab h0 hab hla hla2 hlen hcmp hda hcc;go_enter func214,ntmps214
 go_wp2_with fail
 refine(bP a HA.o Hla.o _).mono ?_;rintro e w' ⟨rfl,rfl⟩;go_wp2_with fail
 refine(bP b HB.o Hlb.o _).mono ?_;rintro e w' ⟨rfl,rfl⟩;go_wp2_with fail
 refine(HC.o _).mono ?_;rintro e w' ⟨rfl,rfl⟩;generalize cmpN (aK a.data.toList) (aK b.data.toList)=cc at *;go_wp2_with fail
 refine(gB a hra.o Ha9.o _).mono ?_;rintro e w1 ⟨v1,rfl,ho1,hb1⟩;have w9:=hid hb1;have HO1:=hid ho1;clear hb1 ho1;go_wp2_with fail
 refine(gB b hrb.o Hb9.o _).mono ?_;rintro e w2 ⟨v2,rfl,ho2,hb2⟩;have wu:=hbt w9 hb2;have hm:=hid (oW v1 v2 _ _ H0.o HDA.o w2 (HO1.o.rd.below hb2) ho2.rd);clear hb2 ho2;go_wp2_with fail
 refine hm.o.mono ?_;rintro e w3 ⟨q,r,rfl,hq,hr,hb3⟩;have wo:=hbt wu hb3;have hwq:=hid (iV q _ (by have:=HQ.o;omega) w3 hq.rd (HT.o.on wo.o));have HR:=hid hr;clear hb3 hq hr;go_wp2_with fail
 refine hwq.o.mono ?_;rintro e w4 ⟨rfl,hb4⟩;have hwr:=hid (iV r _ (by have:=HM.o;omega) w4 (HR.o.rd.below hb4) (HT.o.on (wo.o.trans (hb4.mono wo.o.size))));have wy:=hbt wo hb4;clear hb4;go_wp2_with fail
 refine hwr.o.mono ?_;rintro e w5 ⟨rfl,hb5⟩;have wz:=hbt wy hb5;clear hb5;go_wp2;go_ret3
 exact⟨rfl,wz.o⟩
theorem yA (a b:ByteArray)(ha:vld a.data.toList=true)(hb:vld b.data.toList=true)(h0:aK b.data.toList≠0)(hla:a.size≤90000)(hlb:b.size≤90000)(w:World)(htab:Tb w) :
 CR 214 #[.string a,.string b] w (.tuple #[St (Lib.decDigits (aK a.data.toList / aK b.data.toList)),St (Lib.decDigits (aK a.data.toList%aK b.data.toList)),.int .i64 0]):=by
 rcases Nat.lt_or_ge (aK a.data.toList) (aK b.data.toList) with hab|hab
 · refine(vE a b ha hb hab (by unfold maxLen;omega) (by unfold maxLen;omega) w).mono fun e w' ⟨he,hw⟩=>⟨?_,hw▸Below.refl _ _⟩
   have hs:Value.string a=St a.data.toList:=by cases a;simp[St]
   have h0:Lib.decDigits 0=[48]:=jK [48] (by decide);rw[he,Nat.div_eq_of_lt hab,Nat.mod_eq_of_lt hab,jK _ ha,h0,hs]
 · rcases Nat.lt_or_ge 19 a.size with hs|hs
   · exact vD a b ha hb h0 hab hs hla w htab
   · exact tK a b ha hb h0 hab hs w htab
end Go.Proofs.YtiiedknabcebdaaGreatDoor
set_option maxRecDepth 100000
set_option maxHeartbeats 20000000
open Go.Lib (hid)
namespace Go.Proofs.YtiiedknabcebdaaGreatDoor
open Go.RowKit Go.Gb
theorem z0q {a b c:Nat}{os:List Nat}(hs:df (ae a) (ae b) os (ae a).length c)(hl:(ae b).length≤(ae a).length):ai (os++[c])=a+b∧∀ x∈os++[c],x<BB:=by
 obtain⟨h1,h2⟩:=hs.done hl;rw[aC,aC]at h1;exact⟨h1,h2⟩
theorem wN (v1 v2:Value)(a b:Nat)(ha:a≠0)(hlb:(ae b).length≤(ae a).length)(hl:(ae a).length≤10000)(w:World)(h1:Rd .u64 w v1 (ae a))(h2:Rd .u64 w v2 (ae b)) :
 Calls Tryz.prog 233 #[v1,v2,.func (.func 235) #[.pointer (some ⟨w.heap.size,0,none⟩)] #[]] (w.alloc (.cells #[.int .u64 0] 254)) fun e w' =>
  ∃ v,e=.returned v∧∃ (os:List Nat) (c:Nat),ai (os++[c])=a+b∧(∀ x∈os++[c],x<BB)∧os.length=(ae a).length∧Own .u64 126 (w.heap.size+1) w' v os∧Car w' w.heap.size c∧Below w.heap.size w w':=by
 obtain⟨b1,o1,c1,rfl,_,_,k1,r1⟩:=dJ h1 (List.length_pos_iff.2 (by rw[bO ha];simp));have hb0:=(Below.refl w.heap.size w).alloc (Nat.le_refl _) (.cells #[.int .u64 0] 254);have hcx:∀ i,i<(ae a).length→(w.alloc (.cells #[.int .u64 0] 254)).cell? ⟨b1,o1+i,none⟩=some (.int .u64 (((ae a).getD i 0:Nat):Int)):=fun i hi=>(hb0.cell (p:=⟨b1,o1+i,none⟩) k1).trans (r1 i hi);have hz:(w.alloc (.cells #[.int .u64 0] 254)).heap.size=w.heap.size+1:=by simp
 have fin:∀ (e:Ending) (w':World),(e=.returned (.slice (some ⟨w.heap.size+1,0,none⟩) (ae a).length ((ae a).length+1))∧∃ (os:List Nat) (c:Nat),df (ae a) (ae b) os (ae a).length c∧Blk w' (w.heap.size+1) (os++[0])∧Car w' w.heap.size c∧(w.alloc (.cells #[.int .u64 0] 254)).grownBy w' (some w.heap.size)) →
  ∃ v,e=.returned v∧∃ (os:List Nat) (c:Nat),ai (os++[c])=a+b∧(∀ x∈os++[c],x<BB)∧os.length=(ae a).length∧Own .u64 126 (w.heap.size+1) w' v os∧Car w' w.heap.size c∧Below w.heap.size w w':=by
  rintro e w' ⟨he,os,c,hs,hblk,hc,hg⟩;obtain⟨g1,g2⟩:=z0q hs hlb;have hlen:=hs.1;have hown:=hblk.own (B:=w.heap.size+1) (by omega) (by unfold maxLen;simp;omega) os.length (by simp);rw[List.take_left,hlen,List.length_append,List.length_singleton,hlen]at hown;exact⟨_,he,os,c,g1,g2,hlen,hown,hc,hb0.grown hg (by simp) (fun k hk=>by cases hk;exact Nat.le_refl _)⟩
 rcases h2 with⟨rfl,h2⟩|⟨b2,o2,c2,rfl,_,_,k2,r2⟩
 · have:=qp df w.heap.size b1 o1 c1 none 0 (ae a) (ae b) (by omega) (w.alloc (.cells #[.int .u64 0] 254)) (zG _ _ _ (aU a) (aU b)) (df.start _ _) (fun os i c h=>h.1) (kX w) (by rw[hz];omega) (by omega) hcx (by rw[h2];simp)
   rw[hz,h2]at this;rw[h2]at fin;exact this.mono fin
 · have:=o6 df w.heap.size b1 o1 c1 b2 o2 c2 (ae a) (ae b) (by omega) (w.alloc (.cells #[.int .u64 0] 254)) (zG _ _ _ (aU a) (aU b)) (df.start _ _) (fun os i c h=>h.1) (kX w) (by rw[hz];omega) (by omega) hcx (by rw[hz];omega) (by omega) (fun i hi=>(hb0.cell (p:=⟨b2,o2+i,none⟩) k2).trans (r2 i hi))
   rw[hz]at this;exact this.mono fin
theorem z3x (a b:Nat)(hab:a≠0∨b≠0)(hla:(ae a).length≤10000)(hlb:(ae b).length≤10000):z4r a b:=by
 intro v1 v2 w h1 h2;obtain⟨i0,hi,hz0,hz1,hz2⟩:=info_parts Tryz.info126;by_cases hlt:(ae a).length<(ae b).length
 · have hb:b≠0:=by intro h;rw[h,aS]at hlt;simp at hlt
   have HJ:=hid (wN v2 v1 b a hb (by omega) hlb w h2 h1);rw[Nat.add_comm b a]at HJ;clear hb;obtain⟨a1,c1,rfl⟩:=aY h1;obtain⟨a2,c2,rfl⟩:=aY h2;have Hl:=hid hlb;clear h1 h2 hab hla hlb;generalize a+b=s at *;generalize (ae a).length=m at *;generalize (ae b).length=n at *;go_enter func228,ntmps228
   go_wp2_with fail
   refine HJ.o.mono ?_;rintro e w1 ⟨v,rfl,os,c,g1,g2,g3,hown,hcar,hbw⟩;have hc1:=cell_of_one hcar;obtain ⟨HG1,HG2,HG3⟩:=ax g1 g2 g3;have HOW:=hid (show w1.ownsRow (w.heap.size+1) 126 1 v os.length (cls .u64 os) from hown);have ww:=hid hbw;have HSZ:=hid hcar.lt;clear g1 g2 g3 hown hcar hbw;go_wp2_with (at_builtin;refine wpList_append_own _ rfl _ _ 162 rfl (w.heap.size+1) 126 i0 (.int .u64 0) 1 8 underlying162 hi hz0 hz1 hz2 rfl (by decide) _ _ _ rfl (HOW.o.alloc _) ⟨w1.heap.size,0,none⟩ 1 1 [.int .u64 (c:Int)] rfl rfl (cells_one _ _ _) (by intro u hu;simp at hu;subst hu;rfl) (by have:=HG3.o;have:=Hl.o;unfold maxLen;omega) (by have:=HG3.o;have:=Hl.o;omega) (by have:=HSZ.o;simp;omega) ?_)
   intro v' w2 hown' hgrow _;have hox:Own .u64 126 w.heap.size w2 v' (os++[c]):=(show Own .u64 126 (w.heap.size+1) w2 v' (os++[c]) by unfold Own;rw[cz,List.length_append];exact hown').mono (Nat.le_succ _);have htr:=fC 126 w.heap.size v' (os++[c]) HG2.o w2 hox;rw[HG1.o]at htr;have HTR:=hid htr;have HN:=hid ((ww.o.alloc ww.o.size (.cells #[.int .u64 (c:Int)] 126)).grown hgrow (by have:=HSZ.o;simp;omega) (fun k hk=>Nat.le_of_succ_le (HOW.o.lt k hk).1));clear hox htr hown' hgrow;go_wp2_with fail
   refine HTR.o.mono ?_;rintro e w3 ⟨v3,rfl,hown,rfl⟩;go_wp2;go_ret
   exact⟨v3,rfl,hown,HN.o⟩
 · have ha:a≠0:=by
    intro h;rw[h,aS]at hlt;rcases hab with h2|h2
    · exact h2 h
    · have:=List.length_pos_iff.2 (show ae b≠[]by rw[bO h2];simp)
      simp at hlt;rw[hlt]at this;simp at this
   have HJ:=hid (wN v1 v2 a b ha (by omega) hla w h1 h2);clear ha;obtain⟨a1,c1,rfl⟩:=aY h1;obtain⟨a2,c2,rfl⟩:=aY h2;have Hl:=hid hla;clear h1 h2 hab hla hlb;generalize a+b=s at *;generalize (ae a).length=m at *;generalize (ae b).length=n at *;go_enter func228,ntmps228
   go_wp2_with fail
   refine HJ.o.mono ?_;rintro e w1 ⟨v,rfl,os,c,g1,g2,g3,hown,hcar,hbw⟩;have hc1:=cell_of_one hcar;obtain ⟨HG1,HG2,HG3⟩:=ax g1 g2 g3;have HOW:=hid (show w1.ownsRow (w.heap.size+1) 126 1 v os.length (cls .u64 os) from hown);have ww:=hid hbw;have HSZ:=hid hcar.lt;clear g1 g2 g3 hown hcar hbw;go_wp2_with (at_builtin;refine wpList_append_own _ rfl _ _ 162 rfl (w.heap.size+1) 126 i0 (.int .u64 0) 1 8 underlying162 hi hz0 hz1 hz2 rfl (by decide) _ _ _ rfl (HOW.o.alloc _) ⟨w1.heap.size,0,none⟩ 1 1 [.int .u64 (c:Int)] rfl rfl (cells_one _ _ _) (by intro u hu;simp at hu;subst hu;rfl) (by have:=HG3.o;have:=Hl.o;unfold maxLen;omega) (by have:=HG3.o;have:=Hl.o;omega) (by have:=HSZ.o;simp;omega) ?_)
   intro v' w2 hown' hgrow _;have hox:Own .u64 126 w.heap.size w2 v' (os++[c]):=(show Own .u64 126 (w.heap.size+1) w2 v' (os++[c]) by unfold Own;rw[cz,List.length_append];exact hown').mono (Nat.le_succ _);have htr:=fC 126 w.heap.size v' (os++[c]) HG2.o w2 hox;rw[HG1.o]at htr;have HTR:=hid htr;have HN:=hid ((ww.o.alloc ww.o.size (.cells #[.int .u64 (c:Int)] 126)).grown hgrow (by have:=HSZ.o;simp;omega) (fun k hk=>Nat.le_of_succ_le (HOW.o.lt k hk).1));clear hox htr hown' hgrow;go_wp2_with fail
   refine HTR.o.mono ?_;rintro e w3 ⟨v3,rfl,hown,rfl⟩;go_wp2;go_ret
   exact⟨v3,rfl,hown,HN.o⟩
def Sn (n:Nat):ByteArray:=⟨(Lib.decDigits n).toArray⟩
theorem cB (n:Nat):(Sn n).data.toList=Lib.decDigits n:=by simp[Sn]
theorem eD (n:Nat):vld (Sn n).data.toList=true:=by rw[cB];exact mR n
theorem bZ (n:Nat):aK (Sn n).data.toList=n:=by rw[cB];exact fI n
theorem z4A {a:ByteArray}(h:vld a.data.toList=true):a=Sn (aK a.data.toList):=by
 cases a with
 | mk d =>
   unfold Sn
   congr 1
   rw[jK _ h]
theorem z2x {x y:Nat}(h:Sn x=Sn y):x=y:=by rw[← bZ x,← bZ y,h]
def Sm (k n:Nat):Prop:=n<10^k
theorem Sm.mono {k l n:Nat}(h:Sm k n)(hkl:k≤l):Sm l n:=Nat.lt_of_lt_of_le h (Nat.pow_le_pow_right (by decide) hkl)
theorem Sm.le {k m n:Nat}(h:Sm k n)(hmn:m≤n):Sm k m:=Nat.lt_of_le_of_lt hmn h
theorem Sm.add {k m n:Nat}(hm:Sm k m)(hn:Sm k n):Sm (k+1) (m+n):=by
 unfold Sm at *;rw[Nat.pow_succ];omega
theorem Sm.mul {k l m n:Nat}(hm:Sm k m)(hn:Sm l n):Sm (k+l) (m*n):=by
 unfold Sm at *
 rw[Nat.pow_add];rcases Nat.eq_zero_or_pos n with h|h
 · rw[h,Nat.mul_zero];exact Nat.mul_pos (Nat.pow_pos (by decide)) (Nat.pow_pos (by decide))
 · exact Nat.mul_lt_mul_of_lt_of_le hm (Nat.le_of_lt hn) (Nat.pow_pos (by decide))
theorem Sm.of {a:ByteArray}(h:vld a.data.toList=true){k:Nat}(hl:a.size≤k):Sm k (aK a.data.toList):=by
 have h1:=gP _ (bI h);exact Nat.lt_of_lt_of_le h1 (Nat.pow_le_pow_right (by decide) (by rw[aG];exact hl))
theorem qG:∀ (k n:Nat),Sm k n→0<k→(Lib.decDigits n).length≤k
 | 0,_,_,h=>absurd h (by omega)
 | 1,n,h,_=>by
   have:n<10:=by simpa [Sm] using h
   rw[Lib.decDigits,dif_pos this];simp
 | k+2,n,h,_=>by
   by_cases h10:n<10
   · rw[Lib.decDigits,dif_pos h10];simp
   · rw[Lib.decDigits,dif_neg h10,List.length_append]
     have:=qG (k+1) (n / 10) (by unfold Sm at *;rw[Nat.pow_succ]at h;omega) (by omega);simp;omega
theorem iC {k n:Nat}(h:Sm k n)(hk:0<k):(Sn n).size≤k:=by
 have:=qG k n h hk;rw[← cB,aG]at this;exact this
theorem gL {k n:Nat}(h:Sm k n)(hk:0<k):(ae n).length≤k:=by
 have h1:=dC (bI (eD n)) k (by rw[aG];have:=iC h hk;omega);rwa [bZ]at h1
def Fit (n:Nat):Prop:=Sm 2000 n
theorem Fit.size {n:Nat}(h:Fit n):(Sn n).size≤2000:=iC h (by decide)
theorem Fit.max {n:Nat}(h:Fit n):(Sn n).size≤maxLen:=by have:=h.size;unfold maxLen;omega
theorem z2E (x:Nat)(hx:Fit x)(w:World) :
 Calls Tryz.prog 123 #[.string (Sn x)] w fun e w'=>e=.returned (.bool true)∧w=w' :=
 bP (Sn x) (eD x) hx.max w
theorem qf (x y:Nat)(hx:Fit x)(hy:Fit y)(w:World) :
 Calls Tryz.prog 156 #[.string (Sn x),.string (Sn y)] w fun e w'=>e=.returned (.tuple #[.int .i64 (cmpN x y),.int .i64 0])∧w=w':=by
 have h:=vF (Sn x) (Sn y) (eD x) (eD y) hx.max hy.max w;rwa [bZ,bZ]at h
theorem nAdd (x y:Nat)(hx:Fit x)(hy:Fit y)(w:World)(htab:Tb w) :
 CR 216 #[.string (Sn x),.string (Sn y)] w (.tuple #[.string (Sn (x+y)),.int .i64 0]):=by
 have sx:=hx.size;have sy:=hy.size;by_cases hs:(Sn x).size≤18∧(Sn y).size≤18
 · have h:=z0C (Sn x) (Sn y) (eD x) (eD y) hs.1 hs.2 w htab
   rwa [bZ,bZ]at h
 · have hxy:x≠0∨y≠0:=by
    rcases Nat.eq_zero_or_pos x with h0|h0
    · rcases Nat.eq_zero_or_pos y with h1|h1
      · exfalso
        subst h0 h1;have:(Sn 0).size≤1:=iC (k:=1) (by simp[Sm]) (by decide);omega
      · right;omega
    · left;omega
   have h:=z2p (Sn x) (Sn y) (eD x) (eD y) (by omega) (by omega) (by omega) (by
    rw[bZ,bZ]
    exact z3x x y hxy (Nat.le_trans (gL hx (by decide)) (by decide)) (Nat.le_trans (gL hy (by decide)) (by decide))) w htab
   rwa [bZ,bZ]at h
theorem nSub (x y:Nat)(hx:Fit x)(hyx:y≤x)(w:World)(htab:Tb w) :
 CR 215 #[.string (Sn x),.string (Sn y)] w (.tuple #[.string (Sn (x-y)),.int .i64 0]):=by
 have sx:=hx.size;have sy:=Fit.size (Sm.le hx hyx);have h:=z3y (Sn x) (Sn y) (eD x) (eD y) (by rw[bZ,bZ];exact hyx) (by omega) (by omega) w htab;rwa [bZ,bZ]at h
theorem nMul (x y:Nat)(hx:Fit x)(hy:Fit y)(w:World)(htab:Tb w) :
 CR 158 #[.string (Sn x),.string (Sn y)] w (.tuple #[.string (Sn (x*y)),.int .i64 0]):=by
 have sx:=hx.size;have sy:=hy.size;have h:=z3z (Sn x) (Sn y) (eD x) (eD y) (by omega) (by omega) w htab;rwa [bZ,bZ]at h
theorem z3f (x y:Nat)(hx:Fit x)(hy:Fit y)(h0:y≠0)(w:World)(htab:Tb w) :
 CR 214 #[.string (Sn x),.string (Sn y)] w (.tuple #[.string (Sn (x / y)),.string (Sn (x%y)),.int .i64 0]):=by
 have sx:=hx.size;have sy:=hy.size;have h:=yA (Sn x) (Sn y) (eD x) (eD y) (by rw[bZ];exact h0) (by omega) (by omega) w htab;rwa [bZ,bZ]at h
end Go.Proofs.YtiiedknabcebdaaGreatDoor
namespace Go.Proofs.YtiiedknabcebdaaGreatDoor
open Go.RowKit Go.Gb
theorem fB {W w1:World}(hb:Below W.heap.size W w1):(∀ b o,b<W.heap.size→w1.cell? ⟨b,o,none⟩=W.cell? ⟨b,o,none⟩)∧(∀ b o,b<W.heap.size→w1.frozen? ⟨b,o,none⟩=W.frozen? ⟨b,o,none⟩) :=
 ⟨fun b o h=>hb.cell (p:=⟨b,o,none⟩) h,fun b o h=>hb.frozen (p:=⟨b,o,none⟩) h⟩
def Zz (w:World):Prop:=1<w.heap.size∧w.cell? ⟨1,0,none⟩=some (.int .i64 0)∧w.cell? ⟨1,1,none⟩=some (.string ⟨#[48]⟩)
theorem Zz.on {w w':World}(h:Zz w)(hb:Below w.heap.size w w'):Zz w' :=
 ⟨Nat.lt_of_lt_of_le h.1 hb.size,(hb.cell (p:=⟨1,0,none⟩) h.1).trans h.2.1,(hb.cell (p:=⟨1,1,none⟩) h.1).trans h.2.2⟩
structure La (w:World):Prop where
 tb:Tb w
 zz:Zz w
theorem La.on {w w':World}(h:La w)(hb:Below w.heap.size w w'):La w':=⟨h.tb.on hb,h.zz.on hb⟩
theorem uh:Sn 0=⟨#[48]⟩:=by decide +kernel
theorem z3M:Sn 1=⟨#[49]⟩:=by decide +kernel
theorem pG (n:Nat):(Sn n).toList=Lib.decDigits n:=by rw[toList_data,cB]
theorem ze {x y:Nat}(h:x≠y):((Sn x).toList==(Sn y).toList)=false:=by
 rw[beq_eq_false_iff_ne,pG,pG];exact fun h2=>h (z3n h2)
theorem yZ {x:Nat}(h:x≠0):((Sn x).toList==[48])=false:=by
 rw[beq_eq_false_iff_ne,pG];intro h2;apply h
 rw[← fI x,h2];rfl
def Zv (z:Int):Value:=.agg #[.int .i64 z.sign,.string (Sn z.natAbs)]
def Sz (z:Int):ByteArray:=if z<0 then ⟨(45 :: Lib.decDigits z.natAbs).toArray⟩ else Sn z.natAbs
theorem ji {n:Nat}(h:n≠0):Sz (-(n:Int))=⟨(45 :: Lib.decDigits n).toArray⟩:=by
 unfold Sz;rw[if_pos (by omega),Int.natAbs_neg,Int.natAbs_natCast]
theorem dP (n:Nat):Sz (n:Int)=Sn n:=by
 unfold Sz;rw[if_neg (by omega),Int.natAbs_natCast]
theorem gH {n:Nat}(h:n≠0):Zv (-(n:Int))=.agg #[.int .i64 (-1),.string (Sn n)]:=by
 unfold Zv;rw[Int.natAbs_neg,Int.natAbs_natCast,Int.sign_neg,Int.sign_natCast_of_ne_zero h]
theorem gG {n:Nat}(h:n≠0):Zv (n:Int)=.agg #[.int .i64 1,.string (Sn n)]:=by
 unfold Zv;rw[Int.natAbs_natCast,Int.sign_natCast_of_ne_zero h]
theorem gF:Zv 0=.agg #[.int .i64 0,.string ⟨#[48]⟩]:=by
 unfold Zv;rw[← uh];rfl
theorem bY (z:Int):(∃ n:Nat,n≠0∧z = -(n:Int))∨z=0∨∃ n:Nat,n≠0∧z=(n:Int):=by
 rcases Int.lt_trichotomy z 0 with h|h|h
 · left;exact⟨z.natAbs,by omega,by omega⟩
 · right;left;exact h
 · right;right;exact⟨z.natAbs,by omega,by omega⟩
def FitZ (z:Int):Prop:=Fit z.natAbs
theorem FitZ.neg {n:Nat}(h:FitZ (-(n:Int))):Fit n:=by unfold FitZ at h;rwa [Int.natAbs_neg,Int.natAbs_natCast]at h
theorem FitZ.nat {n:Nat}(h:FitZ (n:Int)):Fit n:=by unfold FitZ at h;rwa [Int.natAbs_natCast]at h
theorem Fit.neg {n:Nat}(h:Fit n):FitZ (-(n:Int)):=by unfold FitZ;rwa [Int.natAbs_neg,Int.natAbs_natCast]
theorem Fit.nat {n:Nat}(h:Fit n):FitZ (n:Int):=by unfold FitZ;rwa [Int.natAbs_natCast]
theorem fit0:Fit 0:=(show Sm 1 0 by simp[Sm]).mono (by decide)
theorem fit1:Fit 1:=(show Sm 1 1 by simp[Sm]).mono (by decide)
theorem fM (s:Int)(b:ByteArray)(h1 : -1≤s)(h2:s≤1)(w:World) :
 CR 195 #[.agg #[.int .i64 s,.string b]] w (.agg #[.int .i64 (-s),.string b]):=by
 go_enter func195,ntmps195
 go_wp2;refine bodyPost_ret (v:=.agg #[.int .i64 (-s),.string b]) (by simp[results,results195,go_sem]) rfl ⟨rfl,?_⟩;repeat (first|exact Below.refl _ _|refine Below.setCell ?_ (by simp) _|refine Below.alloc ?_ (by simp) _|refine Below.drew ?_)
theorem il (z:Int)(w:World) :
 CR 195 #[Zv z] w (Zv (-z)):=by
 have h:=fM z.sign (Sn z.natAbs) (by rcases Int.sign_trichotomy z with h|h|h<;>omega) (by rcases Int.sign_trichotomy z with h|h|h<;>omega) w;unfold Zv
 rw[Int.sign_neg,Int.natAbs_neg];exact h
theorem iI (z:Int)(hf:FitZ z)(w:World) :
 CR 157 #[Zv z] w (.string (Sz z)):=by
 rcases bY z with⟨n,hn,rfl⟩|rfl|⟨n,hn,rfl⟩
 · rw[gH hn,ji hn]
   have hadd:=run_string_add_sum (P:=Tryz.prog) (w.alloc (.cells #[.int .i64 (-1),.string (Sn n)] 138)) ⟨#[45]⟩ (Sn n) (by have:=hf.neg.size;have e:(⟨#[45]⟩:ByteArray).size=1:=rfl;omega);clear hn hf;go_enter func157,ntmps157
   go_wp2;go_ret
   refine⟨?_,(Below.refl _ _).alloc (Nat.le_refl _) _⟩
   have e:(⟨#[45]⟩:ByteArray)++Sn n=⟨(45 :: Lib.decDigits n).toArray⟩:=by
    apply ByteArray.ext
    apply Array.ext'
    simp[Sn]
   rw[e];rfl
 · rw[gF,show Sz 0=⟨#[48]⟩from(dP 0).trans uh]
   go_enter func157,ntmps157
   go_wp2;go_ret
   exact⟨rfl,(Below.refl _ _).alloc (Nat.le_refl _) _⟩
 · rw[gG hn,dP]
   go_enter func157,ntmps157
   go_wp2;go_ret
   exact⟨rfl,(Below.refl _ _).alloc (Nat.le_refl _) _⟩
theorem ui (s:Int)(w:World)(hz:Zz w) :
 CR 124 #[.int .i64 s,.string ⟨#[48]⟩] w (Zv 0):=by
 rw[gF];obtain⟨h0,h1,h2⟩:=hz;go_enter func124,ntmps124
 go_wp2;refine bodyPost_ret (v:=.agg #[.int .i64 0,.string ⟨#[48]⟩]) (by simp[results,results124,go_sem]) rfl ⟨rfl,?_⟩;repeat (first|exact Below.refl _ _|refine Below.setCell ?_ (by simp) _|refine Below.alloc ?_ (by simp) _|refine Below.drew ?_)
theorem uj (s:Int)(n:Nat)(hn:n≠0)(w:World) :
 CR 124 #[.int .i64 s,.string (Sn n)] w (.agg #[.int .i64 s,.string (Sn n)]):=by
 have h0:=yZ hn;clear hn;go_enter func124,ntmps124
 go_wp2;refine bodyPost_ret (v:=.agg #[.int .i64 s,.string (Sn n)]) (by simp[results,results124,go_sem]) rfl ⟨rfl,?_⟩;repeat (first|exact Below.refl _ _|refine Below.setCell ?_ (by simp) _|refine Below.alloc ?_ (by simp) _|refine Below.drew ?_)
theorem lm (s:Int)(n:Nat)(z:Int)(hz:z=s*(n:Int))(hs:s=1∨s = -1)(w:World)(hl:Zz w) :
 CR 124 #[.int .i64 s,.string (Sn n)] w (Zv z):=by
 by_cases hn:n=0
 · subst hn
   obtain rfl:z=0:=by rw[hz];simp
   rw[uh];exact ui s w hl
 · have h:=uj s n hn w
   rcases hs with rfl|rfl
   · rw[show z=(n:Int) by omega,gG hn];exact h
   · rw[show z = -(n:Int) by omega,gH hn];exact h
open Go.Lib (hid)
def vldZ (l:List UInt8):Bool:=match l with
 | []=>false
 | c :: t=>if c=45 then vld t && !(t==[48]) else vld (c :: t)
def zval (l:List UInt8):Int:=match l with
 | []=>0
 | c :: t=>if c=45 then -(aK t:Int) else (aK (c :: t):Int)
theorem jH {n:Nat}:∃ c t,Lib.decDigits n=c :: t∧c≠45:=by
 cases h:Lib.decDigits n with
 | nil=>exact absurd h (iR n)
 | cons c t =>
   refine⟨c,t,rfl,?_⟩;have h1:=jc n;rw[h]at h1;simp only[List.all_cons,Bool.and_eq_true]at h1;have h2:=(fA c).1 h1.1;intro h3;subst h3;simp at h2
theorem mr (n:Nat):vldZ (Lib.decDigits n)=true:=by
 obtain⟨c,t,h,hc⟩:=jH (n:=n);have hv:=mR n;rw[h]at hv ⊢;unfold vldZ
 simp only[if_neg hc,hv]
theorem jX (n:Nat):zval (Lib.decDigits n)=(n:Int):=by
 obtain⟨c,t,h,hc⟩:=jH (n:=n);have hv:=fI n;rw[h]at hv ⊢;unfold zval
 simp only[if_neg hc,hv]
theorem z4T {n:Nat}(h:Lib.decDigits n=[48]):n=0:=by rw[← fI n,h];rfl
theorem z0R {n:Nat}(hn:n≠0):vldZ (45 :: Lib.decDigits n)=true:=by
 have h:(Lib.decDigits n==[48])=false:=beq_eq_false_iff_ne.2 (fun h=>hn (z4T h));unfold vldZ
 simp[mR n,h]
theorem z0E (n:Nat):zval (45 :: Lib.decDigits n) = -(n:Int):=by
 unfold zval
 simp[fI n]
theorem yR {a:ByteArray}(h:vldZ a.data.toList=true):a=Sz (zval a.data.toList):=by
 cases a with
 | mk d =>
   cases hl:d.toList with
   | nil=>simp[hl,vldZ]at h
   | cons c t =>
     simp only[hl]at h ⊢;by_cases hc:c=45
     · subst hc
       simp only[vldZ,if_true,Bool.and_eq_true]at h;obtain⟨h1,h2⟩:=h;have hd:=jK t h1
       have hne:aK t≠0:=by
        intro h0;rw[h0,Lib.decDigits_one (by decide)]at hd;rw[← hd]at h2;simp at h2
       have e:zval (45 :: t) = -(aK t:Int):=by simp[zval]
       rw[e,ji hne,hd,← hl]
     · simp only[vldZ,if_neg hc]at h
       have hd:=jK (c :: t) h;have e:zval (c :: t)=(aK (c :: t):Int):=by simp[zval,hc]
       rw[e,dP];unfold Sn
       rw[hd,← hl]
theorem yQ (z:Int):vldZ (Sz z).data.toList=true:=by
 rcases bY z with⟨n,hn,rfl⟩|rfl|⟨n,hn,rfl⟩
 · rw[ji hn];simpa using z0R hn
 · rw[show Sz 0=Sn 0 from dP 0,cB];exact mr 0
 · rw[dP,cB];exact mr n
theorem rf (z:Int):zval (Sz z).data.toList=z:=by
 rcases bY z with⟨n,hn,rfl⟩|rfl|⟨n,hn,rfl⟩
 · rw[ji hn];simpa using z0E n
 · rw[show Sz 0=Sn 0 from dP 0,cB];exact jX 0
 · rw[dP,cB];exact jX n
theorem uR (l:List UInt8)(w:World) :
 Calls Tryz.prog 122 #[.string ⟨(45 :: l).toArray⟩,.string ⟨#[45]⟩] w fun e w'=>e=.returned (.tuple #[.string ⟨l.toArray⟩,.bool true])∧w=w':=by
 refine(Tryz.strings_CutPrefix _ _ w).mono ?_;rintro e w' ⟨rfl,rfl⟩;refine⟨?_,rfl⟩;simp[Lib.trimPrefix,Lib.hasPrefix,List.isPrefixOf]
theorem z0i (s:ByteArray)(h:∀ t,s.data.toList≠45 :: t)(w:World) :
 Calls Tryz.prog 122 #[.string s,.string ⟨#[45]⟩] w fun e w'=>e=.returned (.tuple #[.string s,.bool false])∧w=w':=by
 refine(Tryz.strings_CutPrefix _ _ w).mono ?_;rintro e w' ⟨rfl,rfl⟩;refine⟨?_,rfl⟩
 have hp:Lib.hasPrefix s.data.toList [45]=false:=by
  unfold Lib.hasPrefix
  cases hl:s.data.toList with
  | nil=>rfl
  | cons c t =>
    have:¬ 45=c:=by intro hc;subst hc;exact h t hl
    simp[List.isPrefixOf,this]
 have e:(⟨#[45]⟩:ByteArray).data.toList=[45]:=rfl;rw[e,hp];unfold Lib.trimPrefix
 rw[hp];cases s
 simp
def Zno:Value:=.agg #[.int .i64 0,.string ⟨#[]⟩]
theorem z1g (n:Nat)(hn:n≠0)(hf:Fit n)(w:World) :
 CR 104 #[.string ⟨(45 :: Lib.decDigits n).toArray⟩] w (.tuple #[.agg #[.int .i64 (-1),.string (Sn n)],.bool true]):=by
 have HC:=hid (uR (Lib.decDigits n));rw[show(⟨(Lib.decDigits n).toArray⟩:ByteArray)=Sn n from rfl]at HC;have HV:=hid (z2E n hf);have h0:=yZ hn;clear hn hf;go_enter func104,ntmps104
 go_wp2_with fail
 refine(HC.o _).mono ?_;rintro e w' ⟨rfl,rfl⟩;go_wp2_with fail
 refine(HV.o _).mono ?_;rintro e w' ⟨rfl,rfl⟩;go_wp2;refine bodyPost_ret (v:=.tuple #[.agg #[.int .i64 (-1),.string (Sn n)],.bool true]) (by simp[results,results104,go_sem]) rfl ⟨rfl,?_⟩;repeat (first|exact Below.refl _ _|refine Below.setCell ?_ (by simp) _|refine Below.alloc ?_ (by simp) _|refine Below.drew ?_)
theorem z4M {n:Nat}:∀ t,(Sn n).data.toList≠45 :: t:=by
 intro t h;rw[cB]at h;obtain⟨c,t',h2,hc⟩:=jH (n:=n);rw[h2]at h;injection h with h3 h4
 exact hc h3
theorem vZ (n:Nat)(hf:Fit n)(w:World)(hl:Zz w) :
 CR 104 #[.string (Sn n)] w (.tuple #[Zv (n:Int),.bool true]):=by
 have HC:=hid (z0i (Sn n) z4M);have HV:=hid (z2E n hf);have hb0:=(Below.refl w.heap.size w).alloc (Nat.le_refl _) (.cells #[.int .i64 0,.string ⟨#[]⟩] 138);have HS:=hid (lm 1 n (n:Int) (by omega) (Or.inl rfl) _ (hl.on hb0));unfold Zv at *
 generalize (n:Int).sign=s at *;generalize Sn (n:Int).natAbs=b at *;clear hf hl hb0;go_enter func104,ntmps104
 go_wp2_with fail
 refine(HC.o _).mono ?_;rintro e w' ⟨rfl,rfl⟩;go_wp2_with fail
 refine(HV.o _).mono ?_;rintro e w' ⟨rfl,rfl⟩;go_wp2_with fail
 refine HS.o.mono ?_;rintro e w1 ⟨rfl,hb1⟩;have HB:=hid (((Below.refl w.heap.size w).alloc (Nat.le_refl _) (.cells #[.int .i64 0,.string ⟨#[]⟩] 138)).trans (hb1.mono (by simp)));obtain⟨hc,hf⟩:=fB hb1;have hz:w.heap.size<w1.heap.size:=by have:=hb1.size;simp at this;omega
 clear hb1;go_wp2;refine bodyPost_ret (v:=.tuple #[.agg #[.int .i64 s,.string b],.bool true]) (by simp[results,results104,go_sem,hc]) rfl ⟨rfl,?_⟩;repeat (first|exact HB.o|refine Below.setCell ?_ (by simp) _|refine Below.alloc ?_ (by simp) _|refine Below.drew ?_)
theorem kD (z:Int)(hf:FitZ z)(w:World)(hl:Zz w) :
 CR 104 #[.string (Sz z)] w (.tuple #[Zv z,.bool true]):=by
 rcases bY z with⟨n,hn,rfl⟩|rfl|⟨n,hn,rfl⟩
 · rw[ji hn,gH hn];exact z1g n hn hf.neg w
 · rw[show Sz 0=Sn 0 from dP 0];exact vZ 0 fit0 w hl
 · rw[dP];exact vZ n hf.nat w hl
theorem zy (l:List UInt8)(h:vld l=false)(hs:l.length≤maxLen)(w:World) :
 CR 104 #[.string ⟨(45 :: l).toArray⟩] w (.tuple #[Zno,.bool false]):=by
 have HC:=hid (uR l);have HV:=hid (mH ⟨l.toArray⟩ (by simpa using h) (by simpa [ByteArray.size] using hs));clear h hs;go_enter func104,ntmps104
 go_wp2_with fail
 refine(HC.o _).mono ?_;rintro e w' ⟨rfl,rfl⟩;go_wp2_with fail
 refine(HV.o _).mono ?_;rintro e w' ⟨rfl,rfl⟩;go_wp2;refine bodyPost_ret (v:=.tuple #[Zno,.bool false]) (by simp[results,results104,go_sem,Zno]) rfl ⟨rfl,?_⟩;repeat (first|exact Below.refl _ _|refine Below.setCell ?_ (by simp) _|refine Below.alloc ?_ (by simp) _|refine Below.drew ?_)
theorem zx (w:World) :
 CR 104 #[.string ⟨(45 :: [48]).toArray⟩] w (.tuple #[Zno,.bool false]):=by
 have HC:=hid (uR [48]);have HV:=hid (bP ⟨#[48]⟩ (by decide +kernel) (by decide));go_enter func104,ntmps104
 go_wp2_with fail
 refine(HC.o _).mono ?_;rintro e w' ⟨rfl,rfl⟩;go_wp2_with fail
 refine(HV.o _).mono ?_;rintro e w' ⟨rfl,rfl⟩;go_wp2;refine bodyPost_ret (v:=.tuple #[Zno,.bool false]) (by simp[results,results104,go_sem,Zno]) rfl ⟨rfl,?_⟩;repeat (first|exact Below.refl _ _|refine Below.setCell ?_ (by simp) _|refine Below.alloc ?_ (by simp) _|refine Below.drew ?_)
theorem rO (s:ByteArray)(h0:∀ t,s.data.toList≠45 :: t)(h:vld s.data.toList=false)(hs:s.size≤maxLen)(w:World) :
 CR 104 #[.string s] w (.tuple #[Zno,.bool false]):=by
 have HC:=hid (z0i s h0);have HV:=hid (mH s h hs);clear h hs h0;go_enter func104,ntmps104
 go_wp2_with fail
 refine(HC.o _).mono ?_;rintro e w' ⟨rfl,rfl⟩;go_wp2_with fail
 refine(HV.o _).mono ?_;rintro e w' ⟨rfl,rfl⟩;go_wp2;refine bodyPost_ret (v:=.tuple #[Zno,.bool false]) (by simp[results,results104,go_sem,Zno]) rfl ⟨rfl,?_⟩;repeat (first|exact Below.refl _ _|refine Below.setCell ?_ (by simp) _|refine Below.alloc ?_ (by simp) _|refine Below.drew ?_)
theorem z2X (s:ByteArray)(h:vldZ s.data.toList=false)(hs:s.size≤maxLen)(w:World) :
 CR 104 #[.string s] w (.tuple #[Zno,.bool false]):=by
 cases s with
 | mk d =>
   cases hl:d.toList with
   | nil =>
     refine rO ⟨d⟩ (fun t=>by simp[hl]) (by simp[hl,vld]) hs w
   | cons c t =>
     by_cases hc:c=45
     · subst hc
       have hd:d=(45 :: t).toArray:=by rw[← hl]
       have ht:t.length≤maxLen:=by
        have:d.size=t.length+1:=by rw[← Array.length_toList,hl];simp
        simp[ByteArray.size]at hs;omega
       simp only[hl,vldZ,if_true,Bool.and_eq_false_iff]at h;rw[hd];rcases h with h|h
       · exact zy t h ht w
       · obtain rfl:t=[48]:=by simpa using h
         exact zx w
     · refine rO ⟨d⟩ (fun t'=>?_) ?_ hs w
       · simp only[hl];intro h2;injection h2 with h3 h4;exact hc h3
       · simp only[hl,vldZ,if_neg hc]at h ⊢;exact h
theorem dM (z:Int)(hf:FitZ z)(w:World)(hl:Zz w) :
 CR 80 #[.string (Sz z)] w (.bool true):=by
 have HR:=hid (kD z hf w hl);unfold Zv at HR
 generalize z.sign=s at *;generalize Sn z.natAbs=b at *;clear hf hl;go_enter func80,ntmps80
 go_wp2_with fail
 refine HR.o.mono ?_;rintro e w1 ⟨rfl,hb1⟩;have HB:=hid hb1;clear hb1;go_wp2;go_ret
 refine⟨rfl,?_⟩;repeat (first|exact HB.o|refine Below.setCell ?_ (by have:=HB.o.size;simp;omega) _|refine Below.alloc ?_ (by have:=HB.o.size;simp;omega) _|refine Below.drew ?_)
theorem mK (a:ByteArray)(h:vldZ a.data.toList=false)(hs:a.size≤maxLen)(w:World) :
 CR 80 #[.string a] w (.bool false):=by
 have HR:=hid (z2X a h hs w);unfold Zno at HR
 clear h hs;go_enter func80,ntmps80
 go_wp2_with fail
 refine HR.o.mono ?_;rintro e w1 ⟨rfl,hb1⟩;have HB:=hid hb1;clear hb1;go_wp2;go_ret
 refine⟨rfl,?_⟩;repeat (first|exact HB.o|refine Below.setCell ?_ (by have:=HB.o.size;simp;omega) _|refine Below.alloc ?_ (by have:=HB.o.size;simp;omega) _|refine Below.drew ?_)
end Go.Proofs.YtiiedknabcebdaaGreatDoor
open Go.Lib (hid)
namespace Go.Proofs.YtiiedknabcebdaaGreatDoor
open Go.RowKit Go.Gb
def Nb (w:World) (g:Nat) (s:Int) (b:ByteArray):Prop:=w.heap[g]? = some (.cells #[.int .i64 s,.string b] 138 (0,0))
theorem Nb.lt {w:World}{g:Nat}{s:Int}{b:ByteArray}(h:Nb w g s b):g<w.heap.size:=(Array.getElem?_eq_some_iff.1 h).1
theorem Nb.below {w w':World}{g:Nat}{s:Int}{b:ByteArray}(h:Nb w g s b)(hb:Below w.heap.size w w'):Nb w' g s b:=by
 unfold Nb at *
 rw[hb.block g (Array.getElem?_eq_some_iff.1 h).1];exact h
theorem Nb.new (w:World)(s:Int)(b:ByteArray):Nb (w.alloc (.cells #[.int .i64 s,.string b] 138)) w.heap.size s b:=by
 unfold Nb;rw[heap_alloc_new]
theorem Nb.alloc {w:World}{g:Nat}{s:Int}{b:ByteArray}(h:Nb w g s b)(o:Obj):Nb (w.alloc o) g s b:=h.below ((Below.refl _ _).alloc (Nat.le_refl _) o)
theorem Nb.c0 {w:World}{g:Nat}{s:Int}{b:ByteArray}(h:Nb w g s b):w.cell? ⟨g,0,none⟩=some (.int .i64 s):=by
 unfold Nb at h;simp[World.cell?,h]
theorem Nb.c1 {w:World}{g:Nat}{s:Int}{b:ByteArray}(h:Nb w g s b):w.cell? ⟨g,1,none⟩=some (.string b):=by
 unfold Nb at h;simp[World.cell?,h]
theorem Nb.f {w:World}{g:Nat}{s:Int}{b:ByteArray}(h:Nb w g s b)(i:Nat):w.frozen? ⟨g,i,none⟩=false:=by
 unfold Nb at h;simp only[World.frozen?,h];simp
theorem pW (a1 a2:ByteArray)(s t:Int)(b c:ByteArray)(o1 o2:Bool)(w:World)
 (h1:∀ W,Below w.heap.size w W→CR 104 #[.string a1] W (.tuple #[.agg #[.int .i64 s,.string b],.bool o1]))
 (h2:∀ W,Below w.heap.size w W→CR 104 #[.string a2] W (.tuple #[.agg #[.int .i64 t,.string c],.bool o2])) :
 CR 130 #[.string a1,.string a2] w (.tuple #[.agg #[.int .i64 s,.string b],.agg #[.int .i64 t,.string c],.bool (o1&&o2)]):=by
 have HX:=hid h1;have HY:=hid h2;clear h1 h2;have u6:=hid (((Below.refl w.heap.size w).alloc (Nat.le_refl _) (.cells #[.int .i64 0,.string ⟨#[]⟩] 138)).alloc (by simp) (.cells #[.int .i64 0,.string ⟨#[]⟩] 138));have HN4:=hid ((Nb.new w 0 ⟨#[]⟩).alloc (.cells #[.int .i64 0,.string ⟨#[]⟩] 138));have HN5:=Nb.new (w.alloc (.cells #[.int .i64 0,.string ⟨#[]⟩] 138)) 0 ⟨#[]⟩;rw[World.size_alloc]at HN5;have HN5:=hid HN5;go_enter func130,ntmps130
 go_wp2_with fail
 refine(HX.o _ u6.o).mono ?_;rintro e w1 ⟨rfl,hb1⟩;obtain ⟨w9,HN4,HN5,HN7⟩:=aQ ((u6.o.trans (hb1.mono u6.o.size)).alloc (u6.o.trans (hb1.mono u6.o.size)).size (.cells #[.int .i64 s,.string b] 138)) ((HN4.o.below hb1).alloc (.cells #[.int .i64 s,.string b] 138)) ((HN5.o.below hb1).alloc (.cells #[.int .i64 s,.string b] 138)) (Nb.new w1 s b);have hz1:=hid (show w.heap.size+1<w1.heap.size by have:=hb1.size;simp at this;omega);clear hb1;go_wp2_with fail
 refine(HY.o _ w9.o).mono ?_;rintro e w2 ⟨rfl,hb2⟩;have wu:=w9.o.trans (hb2.mono w9.o.size);obtain ⟨wo,HN4,HN5,HN7,HN9⟩:=bQ (wu.alloc wu.size (.cells #[.int .i64 t,.string c] 138)) ((HN4.o.below hb2).alloc (.cells #[.int .i64 t,.string c] 138)) ((HN5.o.below hb2).alloc (.cells #[.int .i64 t,.string c] 138)) ((HN7.o.below hb2).alloc (.cells #[.int .i64 t,.string c] 138)) (Nb.new w2 t c);have hz2:=hid (show w1.heap.size<w2.heap.size by have:=hb2.size;simp at this;omega);clear hb2 wu;go_wp2;have hz1:=hz1.o;have hz2:=hz2.o;have c40:=HN4.o.c0;have c41:=HN4.o.c1;have f4:=HN4.o.f;have c50:=HN5.o.c0;have c51:=HN5.o.c1;have f5:=HN5.o.f;have c70:=HN7.o.c0;have c71:=HN7.o.c1;have c90:=HN9.o.c0;have c91:=HN9.o.c1;generalize w2.alloc (.cells #[.int .i64 t,.string c] 138)=W3 at *;have hlt:w2.heap.size<W3.heap.size:=HN9.o.lt;obtain⟨g4,hg4⟩:∃ g,g=w.heap.size:=⟨_,rfl⟩;obtain⟨g5,hg5⟩:∃ g,g=w.heap.size+1:=⟨_,rfl⟩;obtain⟨g7,hg7⟩:∃ g,g=w1.heap.size:=⟨_,rfl⟩;obtain⟨g9,hg9⟩:∃ g,g=w2.heap.size:=⟨_,rfl⟩;rw[← hg4]at c40 c41;rw[← hg5]at c50 c51;rw[← hg7]at c70 c71;rw[← hg9]at c90 c91;rw[← hg5,← hg4,← hg7,← hg9];have n1:g7≠g4:=by omega
 have n2:g9≠g4:=by omega
 have n3:g7≠g5:=by omega
 have n4:g9≠g5:=by omega
 have n5:g5≠g4:=by omega
 have f40:=f4 0;have f41:=f4 1;have f50:=f5 0;have f51:=f5 1;rw[← hg4]at f40 f41;rw[← hg5]at f50 f51;have hle4:=hid (show w.heap.size≤g4 by omega);have hle5:=hid (show w.heap.size≤g5 by omega);clear f4 f5 hg4 hg5 hg7 hg9 hz1 hz2 hlt;cases o1
 · go_region
   all_goals
    go_wp2;refine bodyPost_ret (v:=.tuple #[.agg #[.int .i64 s,.string b],.agg #[.int .i64 t,.string c],.bool (false&&o2)]) (by simp[results,results130,go_sem,c40,c41,c50,c51]) rfl ⟨rfl,?_⟩;repeat (first|exact wo.o|refine Below.setCell ?_ (by first|exact hle4.o|exact hle5.o) _|refine Below.drew ?_)
 · go_region
   all_goals
    go_wp2;refine bodyPost_ret (v:=.tuple #[.agg #[.int .i64 s,.string b],.agg #[.int .i64 t,.string c],.bool (true&&o2)]) (by simp[results,results130,go_sem,c40,c41,c50,c51]) rfl ⟨rfl,?_⟩;repeat (first|exact wo.o|refine Below.setCell ?_ (by first|exact hle4.o|exact hle5.o) _|refine Below.drew ?_)
theorem ig (x y:Int)(hx:FitZ x)(hy:FitZ y)(w:World)(hl:Zz w) :
 CR 130 #[.string (Sz x),.string (Sz y)] w (.tuple #[Zv x,Zv y,.bool true]) :=
 pW (Sz x) (Sz y) _ _ _ _ true true w (fun W hW=>kD x hx W (hl.on hW)) (fun W hW=>kD y hy W (hl.on hW))
open Go.Lib (hid)
def Zr (s:Int) (n:Nat):Value:=.agg #[.int .i64 s,.string (Sn n)]
theorem ma (s t:Int)(m n k:Nat)(hk:m+n=k)(hm:Fit m)(hn:Fit n)(w:World)(htab:Tb w) :
 CR 194 #[Zr s m,Zr t n] w (Zr s k):=by
 subst hk;have hb0:=((((Below.refl w.heap.size w).alloc (Nat.le_refl _) (.cells #[.int .i64 s,.string (Sn m)] 138)).alloc (by simp) (.cells #[.int .i64 t,.string (Sn n)] 138)).alloc (by simp;omega) (.cells #[.int .i64 0,.string ⟨#[]⟩] 138));have HC:=hid (nAdd m n hm hn _ (htab.on hb0));have u6:=hid hb0;unfold Zr
 generalize m+n=k at *;clear hm hn htab hb0;go_enter func194,ntmps194
 go_wp2_with fail
 refine HC.o.mono ?_;rintro e w1 ⟨rfl,hb1⟩;have HB:=hbt u6 hb1;obtain⟨hc,hf⟩:=fB hb1;have hz:w.heap.size+2<w1.heap.size:=by have:=hb1.size;simp at this;omega
 clear hb1;go_wp2;refine bodyPost_ret (v:=.agg #[.int .i64 s,.string (Sn k)]) (by simp[results,results194,go_sem,hc]) rfl ⟨rfl,?_⟩;repeat (first|exact HB.o|refine Below.setCell ?_ (by simp<;>omega) _|refine Below.alloc ?_ (by simp<;>omega) _|refine Below.drew ?_)
theorem rY (s t r:Int)(m n k:Nat)(hr:s*t=r)(hk:m*n=k)(hs : -1≤r∧r≤1)(hm:Fit m)(hn:Fit n)(w:World)(htab:Tb w) :
 CR 133 #[Zr s m,Zr t n] w (Zr r k):=by
 subst hk;have hb0:=((((Below.refl w.heap.size w).alloc (Nat.le_refl _) (.cells #[.int .i64 s,.string (Sn m)] 138)).alloc (by simp) (.cells #[.int .i64 t,.string (Sn n)] 138)).alloc (by simp;omega) (.cells #[.int .i64 0,.string ⟨#[]⟩] 138));have HC:=hid (nMul m n hm hn _ (htab.on hb0));have u6:=hid hb0;unfold Zr
 generalize m*n=k at *;have h1:=hs.1;have h2:=hs.2;clear hm hn htab hb0 hs;go_enter func133,ntmps133
 go_wp2_with fail
 refine HC.o.mono ?_;rintro e w1 ⟨rfl,hb1⟩;have HB:=hbt u6 hb1;obtain⟨hc,hf⟩:=fB hb1;have hz:w.heap.size+2<w1.heap.size:=by have:=hb1.size;simp at this;omega
 clear hb1;go_wp2;refine bodyPost_ret (v:=.agg #[.int .i64 r,.string (Sn k)]) (by simp[results,results133,go_sem,hc]) rfl ⟨rfl,?_⟩;repeat (first|exact HB.o|refine Below.setCell ?_ (by simp<;>omega) _|refine Below.alloc ?_ (by simp<;>omega) _|refine Below.drew ?_)
theorem qR (t:Int)(b:ByteArray)(w:World)(hl:Zz w) :
 CR 193 #[.agg #[.int .i64 0,.string ⟨#[48]⟩],.agg #[.int .i64 t,.string b]] w (.agg #[.int .i64 t,.string b]):=by
 obtain⟨h0,h1,h2⟩:=hl;have n1:1<w.heap.size+1+1:=by omega
 have n2:1<w.heap.size+1:=by omega
 go_enter func193,ntmps193
 go_wp2;refine bodyPost_ret (v:=.agg #[.int .i64 t,.string b]) (by simp[results,results193,go_sem]) rfl ⟨rfl,?_⟩;repeat (first|exact Below.refl _ _|refine Below.setCell ?_ (by simp<;>omega) _|refine Below.alloc ?_ (by simp<;>omega) _|refine Below.drew ?_)
theorem jO (s:Int)(hs:s≠0)(b:ByteArray)(v:ByteArray)(t:Int)(w:World)(hl:Zz w) :
 CR 193 #[.agg #[.int .i64 s,.string b],.agg #[.int .i64 t,.string v]] w (.agg #[.int .i64 s,.string b]):=by
 obtain⟨h0,h1,h2⟩:=hl;have n1:1<w.heap.size+1+1:=by omega
 have n2:1<w.heap.size+1:=by omega
 have hs1:(s==0)=false:=by simpa using hs
 have hs2:¬ s=0:=hs;go_enter func193,ntmps193
 go_wp2;refine bodyPost_ret (v:=.agg #[.int .i64 s,.string b]) (by simp[results,results193,go_sem]) rfl ⟨rfl,?_⟩;repeat (first|exact Below.refl _ _|refine Below.setCell ?_ (by simp<;>omega) _|refine Below.alloc ?_ (by simp<;>omega) _|refine Below.drew ?_)
theorem nT (s t:Int)(n:Nat)(h1 : -1≤t)(h2:t≤1)(hst:s = -t)(w:World)(hl:Zz w) :
 CR 192 #[Zr s n,Zr t n] w (.agg #[.int .i64 0,.string ⟨#[48]⟩]):=by
 have HN:=hid (fun W=>fM t (Sn n) h1 h2 W);rw[← hst]at HN;unfold Zr
 have hb0:=((((Below.refl w.heap.size w).alloc (Nat.le_refl _) (.cells #[.int .i64 s,.string (Sn n)] 138)).alloc (by simp) (.cells #[.int .i64 t,.string (Sn n)] 138)).alloc (by simp;omega) (.cells #[.int .i64 0,.string ⟨#[]⟩] 138));have u6:=hid hb0;obtain⟨z0,z1,z2⟩:=hl.on hb0;clear hst h1 h2 hb0;go_enter func192,ntmps192
 go_wp2;go_region_with (go_at_call 195;go_must (refine(HN.o _).mono ?_;rintro e w1 ⟨rfl,hb1⟩;obtain⟨hc1,hf1⟩:=fB hb1;have hz1:w.heap.size+2<w1.heap.size:=by have:=hb1.size;simp at this;omega))
 all_goals
  go_wp2;refine bodyPost_ret (v:=.agg #[.int .i64 0,.string ⟨#[48]⟩]) (by simp[results,results192,go_sem,hc1]) rfl ⟨rfl,?_⟩;repeat (first|exact u6.o.trans (hb1.mono u6.o.size)|exact u6.o.drew.trans (hb1.mono u6.o.drew.size)|refine Below.setCell ?_ (by simp<;>omega) _|refine Below.alloc ?_ (by simp<;>omega) _|refine Below.drew ?_)
