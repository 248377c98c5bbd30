/- texts -/
import Derived.Test.YtlgkolkcokaefaaGreatDoorMz9q
import Derived.Deep.LoopGhost
import Derived.Test.YtlgkolkcokaefaaGreatDoorKe
open Go.Proofs.Tryz
namespace Go.Proofs.YtlgkolkcokaefaaGreatDoor
open Go.RowKit Go.Gb
def z4L (a b:Nat):Prop:=∀ (v1 v2:Value) (w:World),Rd .u64 w v1 (ae a)→Rd .u64 w v2 (ae b) →
    Calls Tryz.prog 243 #[v1,v2] w fun e w'=>∃ v,e=.returned v∧Own .u64 110 w.heap.size w' v (ae (a+b))∧Below w.heap.size w w'
open Go.Lib (hid)
theorem gW {a b K:Nat}(ha:(ae a).length≤K)(hb:(ae b).length≤K):(ae (a+b)).length≤K+1:=by
 refine bD ?_;have h1:=dm a;have h2:=dm b;have h3:BB^(ae a).length≤BB^K:=Nat.pow_le_pow_right bF ha;have h4:BB^(ae b).length≤BB^K:=Nat.pow_le_pow_right bF hb;have h6:BB^(K+1)=BB^K*BB:=Nat.pow_succ BB K;have h7:BB^K*2≤BB^K*BB:=Nat.mul_le_mul_left _ nR;generalize BB^K=P at *;generalize BB^(K+1)=Q at *;omega
set_option maxHeartbeats 2000000 in
theorem z2I (a b:ByteArray)(ha:vld a.data.toList=true)(hb:vld b.data.toList=true)(hs:19≤a.size∨19≤b.size)(hla:a.size≤100000)(hlb:b.size≤100000)(hok:z4L (aK a.data.toList) (aK b.data.toList))(w:World)(htab:Tb w) :
 CR 229 #[.string a,.string b] w (.tuple #[St (Lib.decDigits (aK a.data.toList+aK b.data.toList)),.int .i64 0]):=by
 obtain ⟨HA,HB,HT,HOK⟩:=aH ha hb htab hok;have Hla:=hid (show a.size≤maxLen by unfold maxLen;omega);have Hlb:=hid (show b.size≤maxLen by unfold maxLen;omega);have hra:=hid (bA ha);have hrb:=hid (bA hb)
 have hlp:(ae (aK a.data.toList+aK b.data.toList)).length≤100000:=by
  have g1:=df (bA ha) 20000 (by rw[aG];omega);have g2:=df (bA hb) 20000 (by rw[aG];omega);have g3:=gW g1 g2;omega
 have HLP:=hid hlp;have hmx:¬ max (a.size:Int) (b.size:Int)<19:=by omega
 clear ha hb htab hok hlp hs;go_enter func229,ntmps229
 go_wp2_with fail
 refine(bH a HA.out Hla.out _).mono ?_;rintro e w' ⟨rfl,rfl⟩;go_wp2_with fail
 refine(bH b HB.out Hlb.out _).mono ?_;rintro e w' ⟨rfl,rfl⟩;go_wp2_with fail
 refine(fK a hra.out hla _).mono ?_;rintro e w1 ⟨v1,rfl,ho1,hb1⟩;have HB1:=hid hb1;have HO1:=hid ho1;clear hb1 ho1;go_wp2_with fail
 refine(fK b hrb.out hlb _).mono ?_;rintro e w2 ⟨v2,rfl,ho2,hb2⟩;have HB2:=hbt HB1 hb2;have hm:=hid (HOK.out v1 v2 w2 (HO1.out.rd.below hb2) ho2.rd);clear hb2 ho2;go_wp2_with fail
 refine hm.out.mono ?_;rintro e w3 ⟨v3,rfl,ho3,hb3⟩;have HB3:=hbt HB2 hb3;have hwr:=hid (iI v3 _ HLP.out w3 ho3.rd (HT.out.on HB3.out));clear hb3 ho3;go_wp2_with fail
 refine hwr.out.mono ?_;rintro e w4 ⟨rfl,hb4⟩;have HB4:=hbt HB3 hb4;clear hb4;go_wp2;go_ret2
 exact⟨rfl,HB4.out⟩
set_option maxHeartbeats 2000000 in
theorem vv (v1 v2:Value)(a b:Nat)(hab:¬ a<b)(hlb:2≤(ae b).length)(hl:(ae a).length≤90000)(w:World)(h1:Rd .u64 w v1 (ae a))(h2:Rd .u64 w v2 (ae b)) :
 Calls Tryz.prog 218 #[v1,v2] w fun e w'=>∃ q r,e=.returned (.tuple #[q,r])∧Own .u64 110 w.heap.size w' q (ae (a / b))∧Own .u64 110 w.heap.size w' r (ae (a%b))∧Below w.heap.size w w':=by
 have hless:=mH v1 v2 a b (by omega) w h1 h2;rw[show decide (a<b)=false by simpa using hab]at hless;have hlong:=fun(w':World) (hb:Below w.heap.size w w')=>uO v1 v2 a b hlb (by omega) hl w' (h1.below hb) (h2.below hb);obtain⟨b2,o2,c2,rfl,_,_,k2,r2⟩:=dD h2 (by omega);generalize hn:(ae b).length=n at *;obtain ⟨HL,HD,Hn⟩:=ai hless hlong hn;have hne:((n:Int)==1)=false:=beq_eq_false_iff_ne.2 (by omega);clear hless h1 h2 hab hl hlong r2 hn;go_enter func218,ntmps218
 go_wp2_with fail
 refine HL.out.mono ?_;rintro e w1 ⟨rfl,hb1⟩;have HDw:=hid (HD.out w1 hb1);have HB1:=hid hb1;clear hb1;go_wp2_with fail
 refine HDw.out.mono ?_;rintro e w2 ⟨q,r,rfl,hq,hr,hb2⟩;have HQ:=hid (hq.mono HB1.out.size);have HR:=hid (hr.mono HB1.out.size);have HB2:=hbt HB1 hb2;clear hq hr hb2;go_wp2;go_ret2
 exact⟨q,r,rfl,HQ.out,HR.out,HB2.out⟩
theorem oZ (v1 v2:Value)(a b:Nat)(hb:b≠0)(hl:(ae a).length≤90000)(w:World)(h1:Rd .u64 w v1 (ae a))(h2:Rd .u64 w v2 (ae b)) :
 Calls Tryz.prog 218 #[v1,v2] w fun e w'=>∃ q r,e=.returned (.tuple #[q,r])∧Own .u64 110 w.heap.size w' q (ae (a / b))∧Own .u64 110 w.heap.size w' r (ae (a%b))∧Below w.heap.size w w':=by
 by_cases hab:a<b
 · exact(vw v1 v2 a b hab (by omega) w h1 h2).mono fun e w' ⟨r,he,hr,hb⟩=>⟨_,r,he,by rw[Nat.div_eq_of_lt hab,aO];exact Own.nil _ _ _ _,by rw[Nat.mod_eq_of_lt hab];exact hr,hb⟩
 · rcases Nat.lt_or_ge (ae b).length 2 with h|h
   · exact vo v1 v2 a b hab (by have:0<(ae b).length:=by{ rw[bG hb];simp };omega) (by omega) w h1 h2
   · exact vv v1 v2 a b hab h hl w h1 h2
set_option maxHeartbeats 2000000 in
theorem vB (a b:ByteArray)(ha:vld a.data.toList=true)(hb:vld b.data.toList=true)(h0:aK b.data.toList≠0)(hab:aK b.data.toList≤aK a.data.toList)(hla:19<a.size)(hla2:a.size≤90000)(w:World)(htab:Tb w) :
 CR 227 #[.string a,.string b] w (.tuple #[St (Lib.decDigits (aK a.data.toList / aK b.data.toList)),St (Lib.decDigits (aK a.data.toList%aK b.data.toList)),.int .i64 0]):=by
 have hlen:b.size≤a.size:=by
  rcases Nat.lt_or_ge a.size b.size with h|h
  · have:=dW ha hb (by rw[aG,aG];exact h)
    omega
  · exact h
 obtain ⟨HA,HB,HT⟩:=ai ha hb htab;have Hla:=hid (show a.size≤maxLen by unfold maxLen;omega);have Hlb:=hid (show b.size≤maxLen by unfold maxLen;omega);have hra:=hid (bA ha);have hrb:=hid (bA hb);have hne:=iZ (b:=b) h0;have hcmp:=gH a b ha hb
 have hcc:cmpN (aK a.data.toList) (aK b.data.toList)=0∨cmpN (aK a.data.toList) (aK b.data.toList)=1:=by
  rcases Nat.lt_or_ge (aK b.data.toList) (aK a.data.toList) with h|h
  · exact Or.inr (ic h)
  · exact Or.inl (by rw[show aK a.data.toList=aK b.data.toList by omega];exact qE _)
 have hda:=df (bA ha) 90000 (by rw[aG];omega);obtain ⟨HDA,HQ,HM,H0,HC⟩:=aT hda (Nat.le_trans (aN (Nat.div_le_self (aK a.data.toList) (aK b.data.toList))) hda) (Nat.le_trans (aN (Nat.mod_le (aK a.data.toList) (aK b.data.toList))) hda) h0 hcmp;have Ha9:=hid (show a.size≤100000 by omega);have Hb9:=hid (show b.size≤100000 by omega);have hl1:¬ (a.size:Int)≤19:=by omega
 have hl2:decide ((a.size:Int)≤19)=false:=decide_eq_false hl1
 have hc0:(cmpN (aK a.data.toList) (aK b.data.toList)<0)=False:=by
  rcases hcc with h|h<;>rw[h]<;>simp
 clear ha hb htab h0 hab hla hla2 hlen hcmp hda hcc;go_enter func227,ntmps227
 go_wp2_with fail
 refine(bH a HA.out Hla.out _).mono ?_;rintro e w' ⟨rfl,rfl⟩;go_wp2_with fail
 refine(bH b HB.out Hlb.out _).mono ?_;rintro e w' ⟨rfl,rfl⟩;go_wp2_with fail
 refine(HC.out _).mono ?_;rintro e w' ⟨rfl,rfl⟩;generalize cmpN (aK a.data.toList) (aK b.data.toList)=cc at *;go_wp2_with fail
 refine(fK a hra.out Ha9.out _).mono ?_;rintro e w1 ⟨v1,rfl,ho1,hb1⟩;have HB1:=hid hb1;have HO1:=hid ho1;clear hb1 ho1;go_wp2_with fail
 refine(fK b hrb.out Hb9.out _).mono ?_;rintro e w2 ⟨v2,rfl,ho2,hb2⟩;have HB2:=hbt HB1 hb2;have hm:=hid (oZ v1 v2 _ _ H0.out HDA.out w2 (HO1.out.rd.below hb2) ho2.rd);clear hb2 ho2;go_wp2_with fail
 refine hm.out.mono ?_;rintro e w3 ⟨q,r,rfl,hq,hr,hb3⟩;have HB3:=hbt HB2 hb3;have hwq:=hid (iI q _ (by have:=HQ.out;omega) w3 hq.rd (HT.out.on HB3.out));have HR:=hid hr;clear hb3 hq hr;go_wp2_with fail
 refine hwq.out.mono ?_;rintro e w4 ⟨rfl,hb4⟩;have hwr:=hid (iI r _ (by have:=HM.out;omega) w4 (HR.out.rd.below hb4) (HT.out.on (HB3.out.trans (hb4.mono HB3.out.size))));have HB4:=hbt HB3 hb4;clear hb4;go_wp2_with fail
 refine hwr.out.mono ?_;rintro e w5 ⟨rfl,hb5⟩;have HB5:=hbt HB4 hb5;clear hb5;go_wp2;go_ret3
 exact⟨rfl,HB5.out⟩
theorem yK (a b:ByteArray)(ha:vld a.data.toList=true)(hb:vld b.data.toList=true)(h0:aK b.data.toList≠0)(hla:a.size≤90000)(hlb:b.size≤90000)(w:World)(htab:Tb w) :
 CR 227 #[.string a,.string b] w (.tuple #[St (Lib.decDigits (aK a.data.toList / aK b.data.toList)),St (Lib.decDigits (aK a.data.toList%aK b.data.toList)),.int .i64 0]):=by
 rcases Nat.lt_or_ge (aK a.data.toList) (aK b.data.toList) with hab|hab
 · refine(vC a b ha hb hab (by unfold maxLen;omega) (by unfold maxLen;omega) w).mono fun e w' ⟨he,hw⟩=>⟨?_,hw▸Below.refl _ _⟩
   have hs:Value.string a=St a.data.toList:=by cases a;simp[St]
   have h0:Lib.decDigits 0=[48]:=jD [48] (by decide);rw[he,Nat.div_eq_of_lt hab,Nat.mod_eq_of_lt hab,jD _ ha,h0,hs]
 · rcases Nat.lt_or_ge 19 a.size with hs|hs
   · exact vB a b ha hb h0 hab hs hla w htab
   · exact tV a b ha hb h0 hab hs w htab
end Go.Proofs.YtlgkolkcokaefaaGreatDoor
set_option maxRecDepth 100000
set_option maxHeartbeats 20000000
open Go.Lib (hid)
namespace Go.Proofs.YtlgkolkcokaefaaGreatDoor
open Go.RowKit Go.Gb
theorem z0U {a b c:Nat}{os:List Nat}(hs:cu (ae a) (ae b) os (ae a).length c)(hl:(ae b).length≤(ae a).length):aj (os++[c])=a+b∧∀ x∈os++[c],x<BB:=by
 obtain⟨h1,h2⟩:=hs.done hl;rw[aA,aA]at h1;exact⟨h1,h2⟩
theorem wI (v1 v2:Value)(a b:Nat)(ha:a≠0)(hlb:(ae b).length≤(ae a).length)(hl:(ae a).length≤10000)(w:World)(h1:Rd .u64 w v1 (ae a))(h2:Rd .u64 w v2 (ae b)) :
 Calls Tryz.prog 249 #[v1,v2,.func (.func 251) #[.pointer (some ⟨w.heap.size,0,none⟩)] #[]] (w.alloc (.cells #[.int .u64 0] 270)) fun e w' =>
  ∃ v,e=.returned v∧∃ (os:List Nat) (c:Nat),aj (os++[c])=a+b∧(∀ x∈os++[c],x<BB)∧os.length=(ae a).length∧Own .u64 110 (w.heap.size+1) w' v os∧Car w' w.heap.size c∧Below w.heap.size w w':=by
 obtain⟨b1,o1,c1,rfl,_,_,k1,r1⟩:=dD h1 (List.length_pos_iff.2 (by rw[bG ha];simp));have hb0:=(Below.refl w.heap.size w).alloc (Nat.le_refl _) (.cells #[.int .u64 0] 270);have hcx:∀ i,i<(ae a).length→(w.alloc (.cells #[.int .u64 0] 270)).cell? ⟨b1,o1+i,none⟩=some (.int .u64 (((ae a).getD i 0:Nat):Int)):=fun i hi=>(hb0.cell (p:=⟨b1,o1+i,none⟩) k1).trans (r1 i hi);have hz:(w.alloc (.cells #[.int .u64 0] 270)).heap.size=w.heap.size+1:=by simp
 have fin:∀ (e:Ending) (w':World),(e=.returned (.slice (some ⟨w.heap.size+1,0,none⟩) (ae a).length ((ae a).length+1))∧∃ (os:List Nat) (c:Nat),cu (ae a) (ae b) os (ae a).length c∧Blk w' (w.heap.size+1) (os++[0])∧Car w' w.heap.size c∧(w.alloc (.cells #[.int .u64 0] 270)).grownBy w' (some w.heap.size)) →
  ∃ v,e=.returned v∧∃ (os:List Nat) (c:Nat),aj (os++[c])=a+b∧(∀ x∈os++[c],x<BB)∧os.length=(ae a).length∧Own .u64 110 (w.heap.size+1) w' v os∧Car w' w.heap.size c∧Below w.heap.size w w':=by
  rintro e w' ⟨he,os,c,hs,hblk,hc,hg⟩;obtain⟨g1,g2⟩:=z0U hs hlb;have hlen:=hs.1;have hown:=hblk.own (B:=w.heap.size+1) (by omega) (by unfold maxLen;simp;omega) os.length (by simp);rw[List.take_left,hlen,List.length_append,List.length_singleton,hlen]at hown;exact⟨_,he,os,c,g1,g2,hlen,hown,hc,hb0.grown hg (by simp) (fun k hk=>by cases hk;exact Nat.le_refl _)⟩
 rcases h2 with⟨rfl,h2⟩|⟨b2,o2,c2,rfl,_,_,k2,r2⟩
 · have:=qm cu w.heap.size b1 o1 c1 none 0 (ae a) (ae b) (by omega) (w.alloc (.cells #[.int .u64 0] 270)) (zV _ _ _ (aP a) (aP b)) (cu.start _ _) (fun os i c h=>h.1) (kS w) (by rw[hz];omega) (by omega) hcx (by rw[h2];simp)
   rw[hz,h2]at this;rw[h2]at fin;exact this.mono fin
 · have:=nV cu w.heap.size b1 o1 c1 b2 o2 c2 (ae a) (ae b) (by omega) (w.alloc (.cells #[.int .u64 0] 270)) (zV _ _ _ (aP a) (aP b)) (cu.start _ _) (fun os i c h=>h.1) (kS w) (by rw[hz];omega) (by omega) hcx (by rw[hz];omega) (by omega) (fun i hi=>(hb0.cell (p:=⟨b2,o2+i,none⟩) k2).trans (r2 i hi))
   rw[hz]at this;exact this.mono fin
theorem z3S (a b:Nat)(hab:a≠0∨b≠0)(hla:(ae a).length≤10000)(hlb:(ae b).length≤10000):z4L a b:=by
 intro v1 v2 w h1 h2;obtain⟨i0,hi,hz0,hz1,hz2⟩:=info_parts Tryz.info110;by_cases hlt:(ae a).length<(ae b).length
 · have hb:b≠0:=by intro h;rw[h,aO]at hlt;simp at hlt
   have HJ:=hid (wI v2 v1 b a hb (by omega) hlb w h2 h1);rw[Nat.add_comm b a]at HJ;clear hb;obtain⟨a1,c1,rfl⟩:=aR h1;obtain⟨a2,c2,rfl⟩:=aR h2;have Hl:=hid hlb;clear h1 h2 hab hla hlb;generalize a+b=s at *;generalize (ae a).length=m at *;generalize (ae b).length=n at *;go_enter func243,ntmps243
   go_wp2_with fail
   refine HJ.out.mono ?_;rintro e w1 ⟨v,rfl,os,c,g1,g2,g3,hown,hcar,hbw⟩;have hc1:=cell_of_one hcar;obtain ⟨HG1,HG2,HG3⟩:=ai g1 g2 g3;have HOW:=hid (show w1.ownsRow (w.heap.size+1) 110 1 v os.length (cls .u64 os) from hown);have HBW:=hid hbw;have HSZ:=hid hcar.lt;clear g1 g2 g3 hown hcar hbw;go_wp2_with (at_builtin;refine wpList_append_own _ rfl _ _ 174 rfl (w.heap.size+1) 110 i0 (.int .u64 0) 1 8 underlying174 hi hz0 hz1 hz2 rfl (by decide) _ _ _ rfl (HOW.out.alloc _) ⟨w1.heap.size,0,none⟩ 1 1 [.int .u64 (c:Int)] rfl rfl (cells_one _ _ _) (by intro u hu;simp at hu;subst hu;rfl) (by have:=HG3.out;have:=Hl.out;unfold maxLen;omega) (by have:=HG3.out;have:=Hl.out;omega) (by have:=HSZ.out;simp;omega) ?_)
   intro v' w2 hown' hgrow _;have hox:Own .u64 110 w.heap.size w2 v' (os++[c]):=(show Own .u64 110 (w.heap.size+1) w2 v' (os++[c]) by unfold Own;rw[bR,List.length_append];exact hown').mono (Nat.le_succ _);have htr:=eX 110 w.heap.size v' (os++[c]) HG2.out w2 hox;rw[HG1.out]at htr;have HTR:=hid htr;have HN:=hid ((HBW.out.alloc HBW.out.size (.cells #[.int .u64 (c:Int)] 110)).grown hgrow (by have:=HSZ.out;simp;omega) (fun k hk=>Nat.le_of_succ_le (HOW.out.lt k hk).1));clear hox htr hown' hgrow;go_wp2_with fail
   refine HTR.out.mono ?_;rintro e w3 ⟨v3,rfl,hown,rfl⟩;go_wp2;go_ret
   exact⟨v3,rfl,hown,HN.out⟩
 · have ha:a≠0:=by
    intro h;rw[h,aO]at hlt;rcases hab with h2|h2
    · exact h2 h
    · have:=List.length_pos_iff.2 (show ae b≠[]by rw[bG h2];simp)
      simp at hlt;rw[hlt]at this;simp at this
   have HJ:=hid (wI v1 v2 a b ha (by omega) hla w h1 h2);clear ha;obtain⟨a1,c1,rfl⟩:=aR h1;obtain⟨a2,c2,rfl⟩:=aR h2;have Hl:=hid hla;clear h1 h2 hab hla hlb;generalize a+b=s at *;generalize (ae a).length=m at *;generalize (ae b).length=n at *;go_enter func243,ntmps243
   go_wp2_with fail
   refine HJ.out.mono ?_;rintro e w1 ⟨v,rfl,os,c,g1,g2,g3,hown,hcar,hbw⟩;have hc1:=cell_of_one hcar;obtain ⟨HG1,HG2,HG3⟩:=ai g1 g2 g3;have HOW:=hid (show w1.ownsRow (w.heap.size+1) 110 1 v os.length (cls .u64 os) from hown);have HBW:=hid hbw;have HSZ:=hid hcar.lt;clear g1 g2 g3 hown hcar hbw;go_wp2_with (at_builtin;refine wpList_append_own _ rfl _ _ 174 rfl (w.heap.size+1) 110 i0 (.int .u64 0) 1 8 underlying174 hi hz0 hz1 hz2 rfl (by decide) _ _ _ rfl (HOW.out.alloc _) ⟨w1.heap.size,0,none⟩ 1 1 [.int .u64 (c:Int)] rfl rfl (cells_one _ _ _) (by intro u hu;simp at hu;subst hu;rfl) (by have:=HG3.out;have:=Hl.out;unfold maxLen;omega) (by have:=HG3.out;have:=Hl.out;omega) (by have:=HSZ.out;simp;omega) ?_)
   intro v' w2 hown' hgrow _;have hox:Own .u64 110 w.heap.size w2 v' (os++[c]):=(show Own .u64 110 (w.heap.size+1) w2 v' (os++[c]) by unfold Own;rw[bR,List.length_append];exact hown').mono (Nat.le_succ _);have htr:=eX 110 w.heap.size v' (os++[c]) HG2.out w2 hox;rw[HG1.out]at htr;have HTR:=hid htr;have HN:=hid ((HBW.out.alloc HBW.out.size (.cells #[.int .u64 (c:Int)] 110)).grown hgrow (by have:=HSZ.out;simp;omega) (fun k hk=>Nat.le_of_succ_le (HOW.out.lt k hk).1));clear hox htr hown' hgrow;go_wp2_with fail
   refine HTR.out.mono ?_;rintro e w3 ⟨v3,rfl,hown,rfl⟩;go_wp2;go_ret
   exact⟨v3,rfl,hown,HN.out⟩
open Go.Lib (hid)
theorem wD {B:Nat}{w:World}{a:Option Addr}{n c:Nat}{xs:List Nat}(h:Own .u64 110 B w (.slice a n c) xs)(hp:0<n):∃ g,a=some ⟨g,0,none⟩∧n=xs.length∧B≤g∧g<w.heap.size:=by
 obtain⟨h1,h2⟩:=h;rcases h2 with⟨h2,_⟩|⟨g,cap,cur,hv,hg,hh,_⟩
 · injection h2 with e1 e2 e3;omega
 · injection hv with e1 e2 e3
   exact⟨g,e1,e2,hg,(Array.getElem?_eq_some_iff.1 hh).1⟩
theorem wE {B:Nat}{w:World}{g n c:Nat}{xs:List Nat}(h:Own .u64 110 B w (.slice (some ⟨g,0,none⟩) n c) xs)(hn:n=xs.length){i:Nat}(hi:i<n):w.cell? ⟨g,i,none⟩=some (.int .u64 ((xs.getD i 0:Nat):Int)):=by
 subst hn;have:=World.ownsRow.cellAt (w:=w) (size:=1) h i (by omega);rw[this];exact jh hi
theorem wC {B:Nat}{w:World}{g n c:Nat}{xs:List Nat}(h:Own .u64 110 B w (.slice (some ⟨g,0,none⟩) n c) xs)(hn:n=xs.length)(i:Nat):w.frozen? ⟨g,i,none⟩=false:=by
 subst hn;exact World.ownsRow.frozenAt (w:=w) (size:=1) h i
theorem rW {B:Nat}{w:World}{g n c:Nat}{xs:List Nat}(h:Own .u64 110 B w (.slice (some ⟨g,0,none⟩) n c) xs)(hn:n=xs.length)(i r:Nat):Own .u64 110 B (w.setCell ⟨g,i,none⟩ (.int .u64 (r:Int))) (.slice (some ⟨g,0,none⟩) n c) (xs.set i r):=by
 subst hn;have:=(World.ownsRow.stored (w:=w) (size:=1) h i (.int .u64 (r:Int))).1;unfold Own
 rw[qF,List.length_set];exact this
theorem rX {B:Nat}{w:World}{v:Value}{xs:List Nat}(h:Own .u64 110 B w v xs){g:Nat}(hg:¬ At v g)(i:Nat)(u:Value):Own .u64 110 B (w.setCell ⟨g,i,none⟩ u) v xs :=
 h.kp (S:=fun k=>k=g) ((Kp.refl (fun k=>k=g) w).set (p:=⟨g,i,none⟩) (fun _=>rfl) u) (fun _ hk e=>hg (e▸hk))
theorem rC (w:World)(p:Addr)(u:Value):(w.setCell p u).heap.size=w.heap.size:=by simp[World.setCell]
theorem zL (ys r:List Nat)(x:Nat):(ys++(x :: r)).getD ys.length 0=x:=by simp[List.getD]
theorem zK (ys r:List Nat)(x v:Nat):(ys++(x :: r)).set ys.length v=(ys++[v])++r:=by simp
theorem wY {p q:Int}{X Y os:List Nat}{i:Nat}{k:Int}(h:lL p q X Y os i k)(hx:X.getD i 0<BB)(hy:Y.getD i 0<BB)(hp1 : -1000000000≤p)(hp2:p≤1000000000)(hq1 : -1000000000≤q)(hq2:q≤1000000000) :
 ∃ (r:Nat) (j:Int),lL p q X Y (os++[r]) (i+1) j∧r<1000000000 ∧ -3000000000≤j∧j≤3000000000 ∧
   ∀ W,Calls Tryz.prog 237 #[.int .i64 (p*(X.getD i 0:Int)+q*(Y.getD i 0:Int)+k)] W fun e w'=>e=.returned (.tuple #[.int .u64 (r:Int),.int .i64 j])∧W=w':=by
 obtain⟨b0,b1,hb⟩:=h.step hx hy hp1 hp2 hq1 hq2;refine⟨_,_,hb,by omega,hb.2.2.1,hb.2.2.2.1,fun W=>?_⟩;have hs:=zu _ b0 b1 W;rw[Int.toNat_of_nonneg (Int.emod_nonneg _ (by decide))];exact hs
theorem ji (B:Nat)(v1 v2:Value)(xs ys:List Nat)(a b c d:Int)(z1 z2:Nat)(w:World)
 (ha1 : -1000000000≤a) (ha2:a≤1000000000) (hb1 : -1000000000≤b) (hb2:b≤1000000000) (hc1 : -1000000000≤c) (hc2:c≤1000000000) (hd1 : -1000000000≤d) (hd2:d≤1000000000)
 (hx:∀ x∈xs,x<BB) (hy:∀ y∈ys,y<BB) (hlx:xs.length≤90000) (hly:ys.length≤90000)
 (e1:a*(aj xs:Int)+b*(aj ys:Int)=(z1:Int)) (e2:c*(aj xs:Int)+d*(aj ys:Int)=(z2:Int))
 (h1:Own .u64 110 B w v1 xs) (h2:Own .u64 110 B w v2 ys) (hs:Apt v1 v2) (hB:B≤w.heap.size) :
 Calls Tryz.prog 220 #[v1,v2,.int .i64 a,.int .i64 b,.int .i64 c,.int .i64 d] w fun e w'=>∃ u1 u2,e=.returned (.tuple #[u1,u2])∧Own .u64 110 B w' u1 (ae z1)∧Own .u64 110 B w' u2 (ae z2) ∧
  Apt u1 u2∧fB w v1 u1∧fB w v2 u2∧Kp (fun g=>At v1 g∨At v2 g) w w':=by
 obtain⟨n,hn⟩:∃ n,n=max xs.length ys.length:=⟨_,rfl⟩;have hmx:max (xs.length:Int) (ys.length:Int)=(n:Int):=by omega
 obtain⟨X,hX⟩:∃ X,X=xs++List.replicate (n-xs.length) 0:=⟨_,rfl⟩;obtain⟨Y,hY⟩:∃ Y,Y=ys++List.replicate (n-ys.length) 0:=⟨_,rfl⟩;have hXl:X.length=n:=by rw[hX,List.length_append,List.length_replicate];omega
 have hYl:Y.length=n:=by rw[hY,List.length_append,List.length_replicate];omega
 have hXB:∀ x∈X,x<BB:=by
  intro x hx';rw[hX]at hx';rcases List.mem_append.1 hx' with h|h
  · exact hx x h
  · rw[(List.mem_replicate.1 h).2];exact bF
 have hYB:∀ y∈Y,y<BB:=by
  intro y hy';rw[hY]at hy';rcases List.mem_append.1 hy' with h|h
  · exact hy y h
  · rw[(List.mem_replicate.1 h).2];exact bF
 have hXv:aj X=aj xs:=by rw[hX];exact ek xs _
 have hYv:aj Y=aj ys:=by rw[hY];exact ek ys _
 rw[← hXv,← hYv]at e1 e2
 have HP1:=hid (show ∀ W,Own .u64 110 B W v1 xs→B≤W.heap.size→Calls Tryz.prog 236 #[v1,.int .i64 (n:Int)] W fun e w'=>∃ u,e=.returned u∧Own .u64 110 B w' u X∧fB W v1 u∧Kp (At v1) W w' from
  fun W h hBW=>by rw[hX];exact zX B v1 xs n (by omega) (by omega) W h hBW)
 have HP2:=hid (show ∀ W,Own .u64 110 B W v2 ys→B≤W.heap.size→Calls Tryz.prog 236 #[v2,.int .i64 (n:Int)] W fun e w'=>∃ u,e=.returned u∧Own .u64 110 B w' u Y∧fB W v2 u∧Kp (At v2) W w' from
  fun W h hBW=>by rw[hY];exact zX B v2 ys n (by omega) (by omega) W h hBW)
 have hn9:n≤90000:=by omega
 obtain⟨a1,c1,rfl⟩:=aR h1.rd;obtain⟨a2,c2,rfl⟩:=aR h2.rd;obtain ⟨HXB,HYB,HXL,HYL,HE1,HE2,H1,H2,HS,HB⟩:=iB hXB hYB hXl hYl e1 e2 h1 h2 hs hB;clear hn hX hY hXl hYl hXB hYB hXv hYv e1 e2 h1 h2 hs hB hx hy;go_enter func220,ntmps220
 go_wp2_with fail
 refine(HP1.out _ H1.out HB.out).mono ?_;rintro e w1 ⟨u1,rfl,ho1,hno1,hk1⟩;have ho2:=H2.out.kp hk1 (fun g h h'=>HS.out g h' h);have hs1:Apt u1 (.slice a2 ys.length c2):=HS.out.newOr hno1 (fun g hg=>(H2.out.at hg).2);obtain ⟨HO1,HO2,HN1,HK1,HS1⟩:=aT ho1 ho2 hno1 hk1 hs1;clear ho1 ho2 hno1 hk1 hs1;go_wp2_with fail
 refine(HP2.out _ HO2.out (Nat.le_trans HB.out HK1.out.size)).mono ?_;rintro e w2 ⟨u2,rfl,ho2,hno2,hk2⟩;have ho1:=HO1.out.kp hk2 (fun g h h'=>HS1.out g h h');have hs2:Apt u1 u2:=(HS1.out.symm.newOr hno2 (fun g hg=>(HO1.out.at hg).2)).symm;have HN2:=hid (show fB w (.slice a2 ys.length c2) u2 from(fB.refl w _).trans hno2 HK1.out.size);have HK2:=hid (show Kp (fun g=>At (.slice a1 xs.length c1) g∨At (.slice a2 ys.length c2) g) w w2 from(HK1.out.mono (fun _ h=>Or.inl h)).trans hk2 (fun _ _ h=>Or.inr h));obtain⟨b1,k1,rfl⟩:=aR ho1.rd;obtain⟨b2,k2,rfl⟩:=aR ho2.rd;rw[HXL.out]at ho1 hs2 HN1;rw[HYL.out]at ho2 hs2 HN2;rw[HXL.out,HYL.out];obtain ⟨HO1,HO2,HS2⟩:=ai ho1 ho2 hs2;clear ho1 ho2 hno2 hk2 hs2 HP1 HP2 HS1 HK1;go_wp2
 go_loopw [15,16,17,18,19,20,34] (fun f1 f2 _ _ _ _ ii wr=>∃ (i:Nat) (j1 j2:Int) (o1 o2:List Nat),i≤n∧ii=.int .i64 (i:Int)∧f1=.int .i64 j1∧f2=.int .i64 j2∧Hid (lL a b X Y o1 i j1)∧Hid (lL c d X Y o2 i j2) ∧
  Hid (Own .u64 110 B wr (.slice b1 n k1) (o1++X.drop i))∧Hid (Own .u64 110 B wr (.slice b2 n k2) (o2++Y.drop i))∧Hid (Kp (fun g=>At (.slice a1 xs.length c1) g∨At (.slice a2 ys.length c2) g) w wr)∧Hid (w2.heap.size=wr.heap.size)) (fun _ _ _ _ _ _ ii _=>n-(intOf ii).toNat)
 case atStart=>exact⟨0,0,0,[],[],Nat.zero_le _,rfl,rfl,rfl,lL.start _ _ _ _,lL.start _ _ _ _,by rw[List.drop_zero];exact HO1.out,by rw[List.drop_zero];exact HO2.out,HK2.out,rfl⟩
 case round =>
  obtain⟨i,j1,j2,o1,o2,hi,rfl,rfl,rfl,hi1,hi2,hO1,hO2,hK,hZ⟩:=hrel;clear HO1 HO2 HK2;by_cases hlt:i<n
  · obtain⟨g1,rfl,hl1,hg1B,hg1⟩:=wD hO1.out (by omega)
    obtain⟨g2,rfl,hl2,hg2B,hg2⟩:=wD hO2.out (by omega);have hne:g1≠g2:=fun e=>HS2.out g1 (eZ.2 rfl) (eZ.2 e.symm);have hne':¬ g2=g1:=fun e=>hne e.symm;have ol1:=hi1.out.1;have ol2:=hi2.out.1;have x9:=getD_lt HXB.out i;have y9:=getD_lt HYB.out i;obtain⟨r1,m1,hn1,hr1,ml1,mu1,hs1⟩:=wY hi1.out x9 y9 ha1 ha2 hb1 hb2;obtain⟨r2,m2,hn2,hr2,ml2,mu2,hs2⟩:=wY hi2.out x9 y9 hc1 hc2 hd1 hd2;have q1:=Go.Gb.prod_bound ha1 ha2 x9;have q2:=Go.Gb.prod_bound hb1 hb2 y9;have q3:=Go.Gb.prod_bound hc1 hc2 x9;have q4:=Go.Gb.prod_bound hd1 hd2 y9;have jl1:=hi1.out.2.2.1;have ju1:=hi1.out.2.2.2.1;have jl2:=hi2.out.2.2.1;have ju2:=hi2.out.2.2.2.1;have dx:X.drop i=X.getD i 0 :: X.drop (i+1):=eD (by rw[HXL.out];exact hlt);have dy:Y.drop i=Y.getD i 0 :: Y.drop (i+1):=eD (by rw[HYL.out];exact hlt);have P1:=hO1.out;have P2:=hO2.out;rw[dx]at P1 hl1;rw[dy]at P2 hl2;have cx:=wE P1 hl1 (i:=i) hlt;have cy:=wE P2 hl2 (i:=i) hlt;have fx:=wC P1 hl1 i;have fy:=wC P2 hl2 i;have gx:=zL o1 (X.drop (i+1)) (X.getD i 0);have gy:=zL o2 (Y.drop (i+1)) (Y.getD i 0);rw[ol1]at gx;rw[ol2]at gy;rw[gx]at cx;rw[gy]at cy;have w1':=rW P1 hl1 i r1;have sx:=zK o1 (X.drop (i+1)) (X.getD i 0) r1;have sy:=zK o2 (Y.drop (i+1)) (Y.getD i 0) r2;rw[ol1]at sx;rw[ol2]at sy;rw[sx]at w1';have nA2:¬ At (.slice (some ⟨g2,0,none⟩) n k2) g1:=fun h=>hne' (eZ.1 h);have nA1:¬ At (.slice (some ⟨g1,0,none⟩) n k1) g2:=fun h=>hne (eZ.1 h);have w2':=rW (rX P2 nA2 i (.int .u64 (r1:Int))) hl2 i r2;rw[sy]at w2';obtain ⟨HW1,HW2⟩:=aF (rX w1' nA1 i (.int .u64 (r2:Int))) w2'
    have kk:Kp (fun g=>At (.slice a1 xs.length c1) g∨At (.slice a2 ys.length c2) g) w ((wr.setCell ⟨g1,i,none⟩ (.int .u64 (r1:Int))).setCell ⟨g2,i,none⟩ (.int .u64 (r2:Int))):=by
        refine(hK.out.set (p:=⟨g1,i,none⟩) (fun hlt=>?_) _).set (p:=⟨g2,i,none⟩) (fun hlt=>?_) _
        · rcases HN1.out g1 (eZ.2 rfl) with h|h
          · exact Or.inl h
          · exact absurd hlt (by show ¬ g1<_;omega)
        · rcases HN2.out g2 (eZ.2 rfl) with h|h
          · exact Or.inr h
          · exact absurd hlt (by show ¬ g2<_;omega)
    obtain ⟨HKK,HN1',HN2',HS1,HSS2⟩:=aT kk hn1 hn2 hs1 hs2;clear P1 P2 w1' w2' sx sy gx gy dx dy kk hn1 hn2 hs1 hs2 ol1 ol2 hl1 hl2 hO1 hO2 hi1 hi2 hK nA1 nA2;rw[aI]at x9 y9;generalize X.getD i 0=x at *;generalize Y.getD i 0=y at *;obtain⟨pa,hpa⟩:∃ t,t=a*(x:Int):=⟨_,rfl⟩;obtain⟨pb,hpb⟩:∃ t,t=b*(y:Int):=⟨_,rfl⟩;obtain⟨pc,hpc⟩:∃ t,t=c*(x:Int):=⟨_,rfl⟩;obtain⟨pd,hpd⟩:∃ t,t=d*(y:Int):=⟨_,rfl⟩;rw[← hpa,← hpb]at HS1;rw[← hpc,← hpd]at HSS2;rw[← hpa]at q1;rw[← hpb]at q2;rw[← hpc]at q3;rw[← hpd]at q4;have ea:=hpa.symm;have eb:=hpb.symm;have ec:=hpc.symm;have ed:=hpd.symm;obtain⟨q1l,q1u⟩:=q1;obtain⟨q2l,q2u⟩:=q2;obtain⟨q3l,q3u⟩:=q3;obtain⟨q4l,q4u⟩:=q4;have v1:IntKind.i64.wrap pa=pa:=IntWalk.i64_in _ (by omega);have v2:IntKind.i64.wrap pb=pb:=IntWalk.i64_in _ (by omega);have v3:IntKind.i64.wrap pc=pc:=IntWalk.i64_in _ (by omega);have v4:IntKind.i64.wrap pd=pd:=IntWalk.i64_in _ (by omega);have v5:IntKind.i64.wrap (pa+pb)=pa+pb:=IntWalk.i64_in _ (by omega);have v6:IntKind.i64.wrap (pa+pb+j1)=pa+pb+j1:=IntWalk.i64_in _ (by omega);have v7:IntKind.i64.wrap (pc+pd)=pc+pd:=IntWalk.i64_in _ (by omega);have v8:IntKind.i64.wrap (pc+pd+j2)=pc+pd+j2:=IntWalk.i64_in _ (by omega);clear hpa hpb hpc hpd;go_wp2_with fail
    refine(HS1.out _).mono ?_;rintro e w' ⟨rfl,rfl⟩;go_wp2_with fail
    refine(HSS2.out _).mono ?_;rintro e w' ⟨rfl,rfl⟩;clear v1 v2 v3 v4 v5 v6 v7 v8 ea eb ec ed;go_wp2;go_roundw
    case rel=>exact⟨i+1,m1,m2,o1++[r1],o2++[r2],by omega,by go_num,rfl,rfl,HN1',HN2',HW1,HW2,HKK,by show w2.heap.size=_;rw[rC,rC];exact hZ.out⟩
    case measure=>simp[intOf];omega
  · obtain rfl:i=n:=by omega
    obtain⟨z1n,hw1,hlt1⟩:=hi1.out.done (by rw[HXL.out];exact Nat.le_refl _) (by rw[HYL.out];exact Nat.le_refl _) HE1.out;obtain⟨z2n,hw2,hlt2⟩:=hi2.out.done (by rw[HXL.out];exact Nat.le_refl _) (by rw[HYL.out];exact Nat.le_refl _) HE2.out;have ju1:=hi1.out.2.2.2.1;have ju2:=hi2.out.2.2.2.1;have ol1:=hi1.out.1;have ol2:=hi2.out.1;obtain⟨m1,rfl⟩:=Int.eq_ofNat_of_zero_le z1n;obtain⟨m2,rfl⟩:=Int.eq_ofNat_of_zero_le z2n;rw[Int.toNat_natCast]at hw1 hlt1 hw2 hlt2;have P1:=hO1.out;have P2:=hO2.out;rw[List.drop_of_length_le (by rw[HXL.out];exact Nat.le_refl _),List.append_nil]at P1;rw[List.drop_of_length_le (by rw[HYL.out];exact Nat.le_refl _),List.append_nil]at P2;have hBw:B≤wr.heap.size:=Nat.le_trans HB.out hK.out.size;have A1:=hid (jm B _ o1 m1 (by omega) (by omega) wr P1 hBw);obtain ⟨HP2,HP1,L1,L2,W1,W2⟩:=bT P2 P1 hlt1 hlt2 hw1 hw2;have hm2:m2≤3000000000:=by omega
    have ho2l:o2.length≤100000:=by omega
    have HBW:=hid hBw;clear P1 P2 hlt1 hlt2 hw1 hw2 z1n z2n ju1 ju2 ol1 ol2 hBw hO1 hO2 hi1 hi2;go_wp2_with fail
    refine A1.out.mono ?_;rintro e w3 ⟨u3,rfl,ho3,hno3,hk3⟩;have T1:=hid (z0Y B u3 _ L1.out w3 ho3);rw[W1.out]at T1;have P2':=HP2.out.kp hk3 (fun g h h'=>HS2.out g h' h);have hs3:Apt u3 (.slice b2 i k2):=HS2.out.newOr hno3 (fun g hg=>(HP2.out.at hg).2);have A2:=hid (jm B _ o2 m2 hm2 ho2l w3 P2' (Nat.le_trans HBW.out hk3.size));obtain ⟨HNO3,HK3,HS3,HO3,HPP2⟩:=aT hno3 hk3 hs3 ho3 P2';clear ho3 hno3 hk3 hs3 P2';go_wp2_with fail
    refine T1.out.mono ?_;rintro e w' ⟨t1,rfl,hot1,hat1,rfl⟩;obtain ⟨HT1,HA1⟩:=aF hot1 hat1;clear hot1 hat1;go_wp2_with fail
    refine A2.out.mono ?_;rintro e w4 ⟨u4,rfl,ho4,hno4,hk4⟩;have T2:=hid (z0Y B u4 _ L2.out w4 ho4);rw[W2.out]at T2;obtain ⟨HNO4,HK4⟩:=aF hno4 hk4;clear ho4 hno4 hk4;go_wp2_with fail
    refine T2.out.mono ?_;rintro e w' ⟨t2,rfl,hot2,hat2,rfl⟩;obtain ⟨HT2,HA2⟩:=aF hot2 hat2;clear hot2 hat2;go_wp2;go_ret2
    have zz:=hZ.out;have z3:=HK3.out.size;have zw:=hK.out.size;have zz2:w.heap.size≤w2.heap.size:=by omega
    refine⟨t1,t2,rfl,HT1.out.kp HK4.out (fun g h h'=>HS3.out g (HA1.out g h) h'),HT2.out,?_,?_,?_,?_⟩
    · intro g h h'
      exact(HS3.out.symm.newOr HNO4.out (fun g hg=>(HO3.out.at hg).2)) g (HA2.out g h') (HA1.out g h)
    · intro g h
      rcases HNO3.out g (HA1.out g h) with h'|h'
      · exact HN1.out g h'
      · right;omega
    · intro g h
      rcases HNO4.out g (HA2.out g h) with h'|h'
      · exact HN2.out g h'
      · right;omega
    · refine(hK.out.trans (HK3.out) (fun g hg h=>?_)).trans HK4.out (fun g hg h=>?_)
      · rcases HN1.out g h with h'|h'
        · exact Or.inl h'
        · omega
      · rcases HN2.out g h with h'|h'
        · exact Or.inr h'
        · omega
end Go.Proofs.YtlgkolkcokaefaaGreatDoor
