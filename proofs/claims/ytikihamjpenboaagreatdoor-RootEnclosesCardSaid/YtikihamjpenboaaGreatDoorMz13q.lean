/- texts -/
import Derived.Test.YtikihamjpenboaaGreatDoorMz10q
import Derived.Test.YtikihamjpenboaaGreatDoorKe
import Derived.Deep.RegionHeld3
open Go.Proofs.Tryz
namespace Go.Proofs.YtikihamjpenboaaGreatDoor
open Go.RowKit Go.Gb
def z6t (a b:Nat):Prop:=∀ (v1 v2:Value) (w:World),Rd .u64 w v1 (ae a)→Rd .u64 w v2 (ae b) →
    Calls Tryz.prog 251 #[v1,v2] w fun e w'=>∃ v,e=.returned v∧Own .u64 95 w.heap.size w' v (ae (a+b))∧Below w.heap.size w w'
open Go.Lib (hid)
theorem fC {a b K:Nat}(ha:(ae a).length≤K)(hb:(ae b).length≤K):(ae (a+b)).length≤K+1:=by
 refine bI ?_;have h1:=dI a;have h2:=dI b;have h3:BB^(ae a).length≤BB^K:=Nat.pow_le_pow_right bE ha;have h4:BB^(ae b).length≤BB^K:=Nat.pow_le_pow_right bE hb;have h6:BB^(K+1)=BB^K*BB:=Nat.pow_succ BB K;have h7:BB^K*2≤BB^K*BB:=Nat.mul_le_mul_left _ pg;generalize BB^K=P at *;generalize BB^(K+1)=Q at *;omega
set_option maxHeartbeats 2000000 in
theorem z4b (a b:ByteArray)(ha:vld a.data.toList=true)(hb:vld b.data.toList=true)(hs:19≤a.size∨19≤b.size)(hla:a.size≤100000)(hlb:b.size≤100000)(hok:z6t (aI a.data.toList) (aI b.data.toList))(w:World)(htab:Tb w) :
 CR 240 #[.string a,.string b] w (.tuple #[St (Lib.decDigits (aI a.data.toList+aI b.data.toList)),.int .i64 0]):=by
 obtain ⟨HA,HB,HT,HOK⟩:=aM ha hb htab hok;have Hla:=hid (show a.size≤maxLen by unfold maxLen;omega);have Hlb:=hid (show b.size≤maxLen by unfold maxLen;omega);have hra:=hid (bC ha);have hrb:=hid (bC hb)
 have hlp:(ae (aI a.data.toList+aI b.data.toList)).length≤100000:=by
  have g1:=dF (bC ha) 20000 (by rw[aC];omega);have g2:=dF (bC hb) 20000 (by rw[aC];omega);have g3:=fC g1 g2;omega
 have HLP:=hid hlp;have hmx:¬ max (a.size:Int) (b.size:Int)<19:=by omega
 clear ha hb htab hok hlp hs;go_enter func240,ntmps240
 go_wp2_with fail
 refine(bN a HA.o Hla.o _).mono ?_;rintro e w' ⟨rfl,rfl⟩;go_wp2_with fail
 refine(bN b HB.o Hlb.o _).mono ?_;rintro e w' ⟨rfl,rfl⟩;go_wp2_with fail
 refine(gT a hra.o hla _).mono ?_;rintro e w1 ⟨v1,rfl,ho1,hb1⟩;have u6:=hid hb1;have HO1:=hid ho1;clear hb1 ho1;go_wp2_with fail
 refine(gT b hrb.o hlb _).mono ?_;rintro e w2 ⟨v2,rfl,ho2,hb2⟩;have wo:=hbt u6 hb2;have hm:=hid (HOK.o v1 v2 w2 (HO1.o.rd.below hb2) ho2.rd);clear hb2 ho2;go_wp2_with fail
 refine hm.o.mono ?_;rintro e w3 ⟨v3,rfl,ho3,hb3⟩;have w9:=hbt wo hb3;have hwr:=hid (je v3 _ HLP.o w3 ho3.rd (HT.o.on w9.o));clear hb3 ho3;go_wp2_with fail
 refine hwr.o.mono ?_;rintro e w4 ⟨rfl,hb4⟩;have ww:=hbt w9 hb4;clear hb4;go_wp2;go_ret2
 exact⟨rfl,ww.o⟩
set_option maxHeartbeats 2000000 in
theorem xy (v1 v2:Value)(a b:Nat)(hab:¬ a<b)(hlb:2≤(ae b).length)(hl:(ae a).length≤90000)(w:World)(h1:Rd .u64 w v1 (ae a))(h2:Rd .u64 w v2 (ae b)) :
 Calls Tryz.prog 230 #[v1,v2] w fun e w'=>∃ q r,e=.returned (.tuple #[q,r])∧Own .u64 95 w.heap.size w' q (ae (a / b))∧Own .u64 95 w.heap.size w' r (ae (a%b))∧Below w.heap.size w w':=by
 have hless:=nM v1 v2 a b (by omega) w h1 h2;rw[show decide (a<b)=false by simpa using hab]at hless;have hlong:=fun(w':World) (hb:Below w.heap.size w w')=>wT v1 v2 a b hlb (by omega) hl w' (h1.below hb) (h2.below hb);obtain⟨b2,o2,c2,rfl,_,_,k2,r2⟩:=dN h2 (by omega);generalize hn:(ae b).length=n at *;obtain ⟨HL,HD,Hn⟩:=ak hless hlong hn;have hne:((n:Int)==1)=false:=beq_eq_false_iff_ne.2 (by omega);clear hless h1 h2 hab hl hlong r2 hn;go_enter func230,ntmps230
 go_wp2_with fail
 refine HL.o.mono ?_;rintro e w1 ⟨rfl,hb1⟩;have HDw:=hid (HD.o w1 hb1);have u6:=hid hb1;clear hb1;go_wp2_with fail
 refine HDw.o.mono ?_;rintro e w2 ⟨q,r,rfl,hq,hr,hb2⟩;have HQ:=hid (hq.mono u6.o.size);have HR:=hid (hr.mono u6.o.size);have wo:=hbt u6 hb2;clear hq hr hb2;go_wp2;go_ret2
 exact⟨q,r,rfl,HQ.o,HR.o,wo.o⟩
theorem qO (v1 v2:Value)(a b:Nat)(hb:b≠0)(hl:(ae a).length≤90000)(w:World)(h1:Rd .u64 w v1 (ae a))(h2:Rd .u64 w v2 (ae b)) :
 Calls Tryz.prog 230 #[v1,v2] w fun e w'=>∃ q r,e=.returned (.tuple #[q,r])∧Own .u64 95 w.heap.size w' q (ae (a / b))∧Own .u64 95 w.heap.size w' r (ae (a%b))∧Below w.heap.size w w':=by
 by_cases hab:a<b
 · exact(xz v1 v2 a b hab (by omega) w h1 h2).mono fun e w' ⟨r,he,hr,hb⟩=>⟨_,r,he,by rw[Nat.div_eq_of_lt hab,aN];exact Own.nil _ _ _ _,by rw[Nat.mod_eq_of_lt hab];exact hr,hb⟩
 · rcases Nat.lt_or_ge (ae b).length 2 with h|h
   · exact xw v1 v2 a b hab (by have:0<(ae b).length:=by{ rw[bH hb];simp };omega) (by omega) w h1 h2
   · exact xy v1 v2 a b hab h hl w h1 h2
set_option maxHeartbeats 2000000 in
theorem xA (a b:ByteArray)(ha:vld a.data.toList=true)(hb:vld b.data.toList=true)(h0:aI b.data.toList≠0)(hab:aI b.data.toList≤aI a.data.toList)(hla:19<a.size)(hla2:a.size≤90000)(w:World)(htab:Tb w) :
 CR 217 #[.string a,.string b] w (.tuple #[St (Lib.decDigits (aI a.data.toList / aI b.data.toList)),St (Lib.decDigits (aI a.data.toList%aI b.data.toList)),.int .i64 0]):=by
 have hlen:b.size≤a.size:=by
  rcases Nat.lt_or_ge a.size b.size with h|h
  · have:=eZ ha hb (by rw[aC,aC];exact h)
    omega
  · exact h
 obtain ⟨HA,HB,HT⟩:=ak ha hb htab;have Hla:=hid (show a.size≤maxLen by unfold maxLen;omega);have Hlb:=hid (show b.size≤maxLen by unfold maxLen;omega);have hra:=hid (bC ha);have hrb:=hid (bC hb);have hne:=jG (b:=b) h0;have hcmp:=iy a b ha hb
 have hcc:cmpN (aI a.data.toList) (aI b.data.toList)=0∨cmpN (aI a.data.toList) (aI b.data.toList)=1:=by
  rcases Nat.lt_or_ge (aI b.data.toList) (aI a.data.toList) with h|h
  · exact Or.inr (iO h)
  · exact Or.inl (by rw[show aI a.data.toList=aI b.data.toList by omega];exact sV _)
 have hda:=dF (bC ha) 90000 (by rw[aC];omega);obtain ⟨HDA,HQ,HM,H0,HC⟩:=bY hda (Nat.le_trans (aL (Nat.div_le_self (aI a.data.toList) (aI b.data.toList))) hda) (Nat.le_trans (aL (Nat.mod_le (aI a.data.toList) (aI b.data.toList))) hda) h0 hcmp;have Ha9:=hid (show a.size≤100000 by omega);have Hb9:=hid (show b.size≤100000 by omega);have hl1:¬ (a.size:Int)≤19:=by omega
 have hl2:decide ((a.size:Int)≤19)=false:=decide_eq_false hl1
 have hc0:(cmpN (aI a.data.toList) (aI b.data.toList)<0)=False:=by
  rcases hcc with h|h<;>rw[h]<;>simp
 clear ha hb htab h0 hab hla hla2 hlen hcmp hda hcc;go_enter func217,ntmps217
 go_wp2_with fail
 refine(bN a HA.o Hla.o _).mono ?_;rintro e w' ⟨rfl,rfl⟩;go_wp2_with fail
 refine(bN b HB.o Hlb.o _).mono ?_;rintro e w' ⟨rfl,rfl⟩;go_wp2_with fail
 refine(HC.o _).mono ?_;rintro e w' ⟨rfl,rfl⟩;generalize cmpN (aI a.data.toList) (aI b.data.toList)=cc at *;go_wp2_with fail
 refine(gT a hra.o Ha9.o _).mono ?_;rintro e w1 ⟨v1,rfl,ho1,hb1⟩;have u6:=hid hb1;have HO1:=hid ho1;clear hb1 ho1;go_wp2_with fail
 refine(gT b hrb.o Hb9.o _).mono ?_;rintro e w2 ⟨v2,rfl,ho2,hb2⟩;have wo:=hbt u6 hb2;have hm:=hid (qO v1 v2 _ _ H0.o HDA.o w2 (HO1.o.rd.below hb2) ho2.rd);clear hb2 ho2;go_wp2_with fail
 refine hm.o.mono ?_;rintro e w3 ⟨q,r,rfl,hq,hr,hb3⟩;have w9:=hbt wo hb3;have hwq:=hid (je q _ (by have:=HQ.o;omega) w3 hq.rd (HT.o.on w9.o));have HR:=hid hr;clear hb3 hq hr;go_wp2_with fail
 refine hwq.o.mono ?_;rintro e w4 ⟨rfl,hb4⟩;have hwr:=hid (je r _ (by have:=HM.o;omega) w4 (HR.o.rd.below hb4) (HT.o.on (w9.o.trans (hb4.mono w9.o.size))));have ww:=hbt w9 hb4;clear hb4;go_wp2_with fail
 refine hwr.o.mono ?_;rintro e w5 ⟨rfl,hb5⟩;have si:=hbt ww hb5;clear hb5;go_wp2;go_ret3
 exact⟨rfl,si.o⟩
theorem z06 (a b:ByteArray)(ha:vld a.data.toList=true)(hb:vld b.data.toList=true)(h0:aI b.data.toList≠0)(hla:a.size≤90000)(hlb:b.size≤90000)(w:World)(htab:Tb w) :
 CR 217 #[.string a,.string b] w (.tuple #[St (Lib.decDigits (aI a.data.toList / aI b.data.toList)),St (Lib.decDigits (aI a.data.toList%aI b.data.toList)),.int .i64 0]):=by
 rcases Nat.lt_or_ge (aI a.data.toList) (aI b.data.toList) with hab|hab
 · refine(xB a b ha hb hab (by unfold maxLen;omega) (by unfold maxLen;omega) w).mono fun e w' ⟨he,hw⟩=>⟨?_,hw▸Below.refl _ _⟩
   have hs:Value.string a=St a.data.toList:=by cases a;simp[St]
   have h0:Lib.decDigits 0=[48]:=kv [48] (by decide);rw[he,Nat.div_eq_of_lt hab,Nat.mod_eq_of_lt hab,kv _ ha,h0,hs]
 · rcases Nat.lt_or_ge 19 a.size with hs|hs
   · exact xA a b ha hb h0 hab hs hla w htab
   · exact vF a b ha hb h0 hab hs w htab
end Go.Proofs.YtikihamjpenboaaGreatDoor
set_option maxRecDepth 100000
set_option maxHeartbeats 20000000
open Go.Lib (hid)
namespace Go.Proofs.YtikihamjpenboaaGreatDoor
open Go.RowKit Go.Gb
theorem z2d {a b c:Nat}{os:List Nat}(hs:dw (ae a) (ae b) os (ae a).length c)(hl:(ae b).length≤(ae a).length):ai (os++[c])=a+b∧∀ x∈os++[c],x<BB:=by
 obtain⟨h1,h2⟩:=hs.done hl;rw[ax,ax]at h1;exact⟨h1,h2⟩
theorem yw (v1 v2:Value)(a b:Nat)(ha:a≠0)(hlb:(ae b).length≤(ae a).length)(hl:(ae a).length≤10000)(w:World)(h1:Rd .u64 w v1 (ae a))(h2:Rd .u64 w v2 (ae b)) :
 Calls Tryz.prog 257 #[v1,v2,.func (.func 259) #[.pointer (some ⟨w.heap.size,0,none⟩)] #[]] (w.alloc (.cells #[.int .u64 0] 272)) fun e w' =>
  ∃ v,e=.returned v∧∃ (os:List Nat) (c:Nat),ai (os++[c])=a+b∧(∀ x∈os++[c],x<BB)∧os.length=(ae a).length∧Own .u64 95 (w.heap.size+1) w' v os∧Car w' w.heap.size c∧Below w.heap.size w w':=by
 obtain⟨b1,o1,c1,rfl,_,_,k1,r1⟩:=dN h1 (List.length_pos_iff.2 (by rw[bH ha];simp));have hb0:=(Below.refl w.heap.size w).alloc (Nat.le_refl _) (.cells #[.int .u64 0] 272);have hcx:∀ i,i<(ae a).length→(w.alloc (.cells #[.int .u64 0] 272)).cell? ⟨b1,o1+i,none⟩=some (.int .u64 (((ae a).getD i 0:Nat):Int)):=fun i hi=>(hb0.cell (p:=⟨b1,o1+i,none⟩) k1).trans (r1 i hi);have hz:(w.alloc (.cells #[.int .u64 0] 272)).heap.size=w.heap.size+1:=by simp
 have fin:∀ (e:Ending) (w':World),(e=.returned (.slice (some ⟨w.heap.size+1,0,none⟩) (ae a).length ((ae a).length+1))∧∃ (os:List Nat) (c:Nat),dw (ae a) (ae b) os (ae a).length c∧Blk w' (w.heap.size+1) (os++[0])∧Car w' w.heap.size c∧(w.alloc (.cells #[.int .u64 0] 272)).grownBy w' (some w.heap.size)) →
  ∃ v,e=.returned v∧∃ (os:List Nat) (c:Nat),ai (os++[c])=a+b∧(∀ x∈os++[c],x<BB)∧os.length=(ae a).length∧Own .u64 95 (w.heap.size+1) w' v os∧Car w' w.heap.size c∧Below w.heap.size w w':=by
  rintro e w' ⟨he,os,c,hs,hblk,hc,hg⟩;obtain⟨g1,g2⟩:=z2d hs hlb;have hlen:=hs.1;have hown:=hblk.own (B:=w.heap.size+1) (by omega) (by unfold maxLen;simp;omega) os.length (by simp);rw[List.take_left,hlen,List.length_append,List.length_singleton,hlen]at hown;exact⟨_,he,os,c,g1,g2,hlen,hown,hc,hb0.grown hg (by simp) (fun k hk=>by cases hk;exact Nat.le_refl _)⟩
 rcases h2 with⟨rfl,h2⟩|⟨b2,o2,c2,rfl,_,_,k2,r2⟩
 · have:=su dw w.heap.size b1 o1 c1 none 0 (ae a) (ae b) (by omega) (w.alloc (.cells #[.int .u64 0] 272)) (z0U _ _ _ (aQ a) (aQ b)) (dw.start _ _) (fun os i c h=>h.1) (lM w) (by rw[hz];omega) (by omega) hcx (by rw[h2];simp)
   rw[hz,h2]at this;rw[h2]at fin;exact this.mono fin
 · have:=pM dw w.heap.size b1 o1 c1 b2 o2 c2 (ae a) (ae b) (by omega) (w.alloc (.cells #[.int .u64 0] 272)) (z0U _ _ _ (aQ a) (aQ b)) (dw.start _ _) (fun os i c h=>h.1) (lM w) (by rw[hz];omega) (by omega) hcx (by rw[hz];omega) (by omega) (fun i hi=>(hb0.cell (p:=⟨b2,o2+i,none⟩) k2).trans (r2 i hi))
   rw[hz]at this;exact this.mono fin
theorem z5v (a b:Nat)(hab:a≠0∨b≠0)(hla:(ae a).length≤10000)(hlb:(ae b).length≤10000):z6t a b:=by
 intro v1 v2 w h1 h2;obtain⟨i0,hi,hz0,hz1,hz2⟩:=info_parts Tryz.info95;by_cases hlt:(ae a).length<(ae b).length
 · have hb:b≠0:=by intro h;rw[h,aN]at hlt;simp at hlt
   have HJ:=hid (yw v2 v1 b a hb (by omega) hlb w h2 h1);rw[Nat.add_comm b a]at HJ;clear hb;obtain⟨a1,c1,rfl⟩:=aT h1;obtain⟨a2,c2,rfl⟩:=aT h2;have Hl:=hid hlb;clear h1 h2 hab hla hlb;generalize a+b=s at *;generalize (ae a).length=m at *;generalize (ae b).length=n at *;go_enter func251,ntmps251
   go_wp2_with fail
   refine HJ.o.mono ?_;rintro e w1 ⟨v,rfl,os,c,g1,g2,g3,hown,hcar,hbw⟩;have hc1:=cell_of_one hcar;obtain ⟨HG1,HG2,HG3⟩:=ak g1 g2 g3;have HOW:=hid (show w1.ownsRow (w.heap.size+1) 95 1 v os.length (cls .u64 os) from hown);have wu:=hid hbw;have HSZ:=hid hcar.lt;clear g1 g2 g3 hown hcar hbw;go_wp2_with (at_builtin;refine wpList_append_own _ rfl _ _ 177 rfl (w.heap.size+1) 95 i0 (.int .u64 0) 1 8 underlying177 hi hz0 hz1 hz2 rfl (by decide) _ _ _ rfl (HOW.o.alloc _) ⟨w1.heap.size,0,none⟩ 1 1 [.int .u64 (c:Int)] rfl rfl (cells_one _ _ _) (by intro u hu;simp at hu;subst hu;rfl) (by have:=HG3.o;have:=Hl.o;unfold maxLen;omega) (by have:=HG3.o;have:=Hl.o;omega) (by have:=HSZ.o;simp;omega) ?_)
   intro v' w2 hown' hgrow _;have hox:Own .u64 95 w.heap.size w2 v' (os++[c]):=(show Own .u64 95 (w.heap.size+1) w2 v' (os++[c]) by unfold Own;rw[bW,List.length_append];exact hown').mono (Nat.le_succ _);have htr:=fP 95 w.heap.size v' (os++[c]) HG2.o w2 hox;rw[HG1.o]at htr;have HTR:=hid htr;have HN:=hid ((wu.o.alloc wu.o.size (.cells #[.int .u64 (c:Int)] 95)).grown hgrow (by have:=HSZ.o;simp;omega) (fun k hk=>Nat.le_of_succ_le (HOW.o.lt k hk).1));clear hox htr hown' hgrow;go_wp2_with fail
   refine HTR.o.mono ?_;rintro e w3 ⟨v3,rfl,hown,rfl⟩;go_wp2;go_ret
   exact⟨v3,rfl,hown,HN.o⟩
 · have ha:a≠0:=by
    intro h;rw[h,aN]at hlt;rcases hab with h2|h2
    · exact h2 h
    · have:=List.length_pos_iff.2 (show ae b≠[]by rw[bH h2];simp)
      simp at hlt;rw[hlt]at this;simp at this
   have HJ:=hid (yw v1 v2 a b ha (by omega) hla w h1 h2);clear ha;obtain⟨a1,c1,rfl⟩:=aT h1;obtain⟨a2,c2,rfl⟩:=aT h2;have Hl:=hid hla;clear h1 h2 hab hla hlb;generalize a+b=s at *;generalize (ae a).length=m at *;generalize (ae b).length=n at *;go_enter func251,ntmps251
   go_wp2_with fail
   refine HJ.o.mono ?_;rintro e w1 ⟨v,rfl,os,c,g1,g2,g3,hown,hcar,hbw⟩;have hc1:=cell_of_one hcar;obtain ⟨HG1,HG2,HG3⟩:=ak g1 g2 g3;have HOW:=hid (show w1.ownsRow (w.heap.size+1) 95 1 v os.length (cls .u64 os) from hown);have wu:=hid hbw;have HSZ:=hid hcar.lt;clear g1 g2 g3 hown hcar hbw;go_wp2_with (at_builtin;refine wpList_append_own _ rfl _ _ 177 rfl (w.heap.size+1) 95 i0 (.int .u64 0) 1 8 underlying177 hi hz0 hz1 hz2 rfl (by decide) _ _ _ rfl (HOW.o.alloc _) ⟨w1.heap.size,0,none⟩ 1 1 [.int .u64 (c:Int)] rfl rfl (cells_one _ _ _) (by intro u hu;simp at hu;subst hu;rfl) (by have:=HG3.o;have:=Hl.o;unfold maxLen;omega) (by have:=HG3.o;have:=Hl.o;omega) (by have:=HSZ.o;simp;omega) ?_)
   intro v' w2 hown' hgrow _;have hox:Own .u64 95 w.heap.size w2 v' (os++[c]):=(show Own .u64 95 (w.heap.size+1) w2 v' (os++[c]) by unfold Own;rw[bW,List.length_append];exact hown').mono (Nat.le_succ _);have htr:=fP 95 w.heap.size v' (os++[c]) HG2.o w2 hox;rw[HG1.o]at htr;have HTR:=hid htr;have HN:=hid ((wu.o.alloc wu.o.size (.cells #[.int .u64 (c:Int)] 95)).grown hgrow (by have:=HSZ.o;simp;omega) (fun k hk=>Nat.le_of_succ_le (HOW.o.lt k hk).1));clear hox htr hown' hgrow;go_wp2_with fail
   refine HTR.o.mono ?_;rintro e w3 ⟨v3,rfl,hown,rfl⟩;go_wp2;go_ret
   exact⟨v3,rfl,hown,HN.o⟩
def Sn (n:Nat):ByteArray:=⟨(Lib.decDigits n).toArray⟩
theorem bQ (n:Nat):(Sn n).data.toList=Lib.decDigits n:=by simp[Sn]
theorem eT (n:Nat):vld (Sn n).data.toList=true:=by rw[bQ];exact nR n
theorem bR (n:Nat):aI (Sn n).data.toList=n:=by rw[bQ];exact gN n
theorem z6y {a:ByteArray}(h:vld a.data.toList=true):a=Sn (aI a.data.toList):=by
 cases a with
 | mk d =>
   unfold Sn
   congr 1
   rw[kv _ h]
theorem z4k {x y:Nat}(h:Sn x=Sn y):x=y:=by rw[← bR x,← bR y,h]
def Sm (k n:Nat):Prop:=n<10^k
theorem Sm.mono {k l n:Nat}(h:Sm k n)(hkl:k≤l):Sm l n:=Nat.lt_of_lt_of_le h (Nat.pow_le_pow_right (by decide) hkl)
theorem Sm.le {k m n:Nat}(h:Sm k n)(hmn:m≤n):Sm k m:=Nat.lt_of_le_of_lt hmn h
theorem Sm.add {k m n:Nat}(hm:Sm k m)(hn:Sm k n):Sm (k+1) (m+n):=by
 unfold Sm at *;rw[Nat.pow_succ];omega
theorem Sm.mul {k l m n:Nat}(hm:Sm k m)(hn:Sm l n):Sm (k+l) (m*n):=by
 unfold Sm at *
 rw[Nat.pow_add];rcases Nat.eq_zero_or_pos n with h|h
 · rw[h,Nat.mul_zero];exact Nat.mul_pos (Nat.pow_pos (by decide)) (Nat.pow_pos (by decide))
 · exact Nat.mul_lt_mul_of_lt_of_le hm (Nat.le_of_lt hn) (Nat.pow_pos (by decide))
theorem Sm.of {a:ByteArray}(h:vld a.data.toList=true){k:Nat}(hl:a.size≤k):Sm k (aI a.data.toList):=by
 have h1:=il _ (bC h);exact Nat.lt_of_lt_of_le h1 (Nat.pow_le_pow_right (by decide) (by rw[aC];exact hl))
theorem oG:∀ (k n:Nat),Sm k n→0<k→(Lib.decDigits n).length≤k
 | 0,_,_,h=>absurd h (by omega)
 | 1,n,h,_=>by
   have:n<10:=by simpa [Sm] using h
   rw[Lib.decDigits,dif_pos this];simp
 | k+2,n,h,_=>by
   by_cases h10:n<10
   · rw[Lib.decDigits,dif_pos h10];simp
   · rw[Lib.decDigits,dif_neg h10,List.length_append]
     have:=oG (k+1) (n / 10) (by unfold Sm at *;rw[Nat.pow_succ]at h;omega) (by omega);simp;omega
theorem fT {k n:Nat}(h:Sm k n)(hk:0<k):(Sn n).size≤k:=by
 have:=oG k n h hk;rw[← bQ,aC]at this;exact this
theorem eF {k n:Nat}(h:Sm k n)(hk:0<k):(ae n).length≤k:=by
 have h1:=dF (bC (eT n)) k (by rw[aC];have:=fT h hk;omega);rwa [bR]at h1
def Fit (n:Nat):Prop:=Sm 2000 n
theorem Fit.size {n:Nat}(h:Fit n):(Sn n).size≤2000:=fT h (by decide)
theorem Fit.max {n:Nat}(h:Fit n):(Sn n).size≤maxLen:=by have:=h.size;unfold maxLen;omega
theorem z4w (x:Nat)(hx:Fit x)(w:World) :
 Calls Tryz.prog 143 #[.string (Sn x)] w fun e w'=>e=.returned (.bool true)∧w=w' :=
 bN (Sn x) (eT x) hx.max w
theorem rX (x y:Nat)(hx:Fit x)(hy:Fit y)(w:World) :
 Calls Tryz.prog 219 #[.string (Sn x),.string (Sn y)] w fun e w'=>e=.returned (.tuple #[.int .i64 (cmpN x y),.int .i64 0])∧w=w':=by
 have h:=xC (Sn x) (Sn y) (eT x) (eT y) hx.max hy.max w;rwa [bR,bR]at h
theorem nAdd (x y:Nat)(hx:Fit x)(hy:Fit y)(w:World)(htab:Tb w) :
 CR 240 #[.string (Sn x),.string (Sn y)] w (.tuple #[.string (Sn (x+y)),.int .i64 0]):=by
 have sx:=hx.size;have sy:=hy.size;by_cases hs:(Sn x).size≤18∧(Sn y).size≤18
 · have h:=z2m (Sn x) (Sn y) (eT x) (eT y) hs.1 hs.2 w htab
   rwa [bR,bR]at h
 · have hxy:x≠0∨y≠0:=by
    rcases Nat.eq_zero_or_pos x with h0|h0
    · rcases Nat.eq_zero_or_pos y with h1|h1
      · exfalso
        subst h0 h1;have:(Sn 0).size≤1:=fT (k:=1) (by simp[Sm]) (by decide);omega
      · right;omega
    · left;omega
   have h:=z4b (Sn x) (Sn y) (eT x) (eT y) (by omega) (by omega) (by omega) (by
    rw[bR,bR]
    exact z5v x y hxy (Nat.le_trans (eF hx (by decide)) (by decide)) (Nat.le_trans (eF hy (by decide)) (by decide))) w htab
   rwa [bR,bR]at h
theorem nSub (x y:Nat)(hx:Fit x)(hyx:y≤x)(w:World)(htab:Tb w) :
 CR 239 #[.string (Sn x),.string (Sn y)] w (.tuple #[.string (Sn (x-y)),.int .i64 0]):=by
 have sx:=hx.size;have sy:=Fit.size (Sm.le hx hyx);have h:=z5w (Sn x) (Sn y) (eT x) (eT y) (by rw[bR,bR];exact hyx) (by omega) (by omega) w htab;rwa [bR,bR]at h
theorem nMul (x y:Nat)(hx:Fit x)(hy:Fit y)(w:World)(htab:Tb w) :
 CR 220 #[.string (Sn x),.string (Sn y)] w (.tuple #[.string (Sn (x*y)),.int .i64 0]):=by
 have sx:=hx.size;have sy:=hy.size;have h:=z5y (Sn x) (Sn y) (eT x) (eT y) (by omega) (by omega) w htab;rwa [bR,bR]at h
theorem z5g (x y:Nat)(hx:Fit x)(hy:Fit y)(h0:y≠0)(w:World)(htab:Tb w) :
 CR 217 #[.string (Sn x),.string (Sn y)] w (.tuple #[.string (Sn (x / y)),.string (Sn (x%y)),.int .i64 0]):=by
 have sx:=hx.size;have sy:=hy.size;have h:=z06 (Sn x) (Sn y) (eT x) (eT y) (by rw[bR];exact h0) (by omega) (by omega) w htab;rwa [bR,bR]at h
end Go.Proofs.YtikihamjpenboaaGreatDoor
namespace Go.Proofs.YtikihamjpenboaaGreatDoor
open Go.RowKit Go.Gb
theorem fO {W w1:World}(hb:Below W.heap.size W w1):(∀ b o,b<W.heap.size→w1.cell? ⟨b,o,none⟩=W.cell? ⟨b,o,none⟩)∧(∀ b o,b<W.heap.size→w1.frozen? ⟨b,o,none⟩=W.frozen? ⟨b,o,none⟩) :=
 ⟨fun b o h=>hb.cell (p:=⟨b,o,none⟩) h,fun b o h=>hb.frozen (p:=⟨b,o,none⟩) h⟩
def Zz (w:World):Prop:=1<w.heap.size∧w.cell? ⟨1,0,none⟩=some (.int .i64 0)∧w.cell? ⟨1,1,none⟩=some (.string ⟨#[48]⟩)
theorem Zz.on {w w':World}(h:Zz w)(hb:Below w.heap.size w w'):Zz w' :=
 ⟨Nat.lt_of_lt_of_le h.1 hb.size,(hb.cell (p:=⟨1,0,none⟩) h.1).trans h.2.1,(hb.cell (p:=⟨1,1,none⟩) h.1).trans h.2.2⟩
structure La (w:World):Prop where
 tb:Tb w
 zz:Zz w
theorem La.on {w w':World}(h:La w)(hb:Below w.heap.size w w'):La w':=⟨h.tb.on hb,h.zz.on hb⟩
theorem vJ:Sn 0=⟨#[48]⟩:=by decide +kernel
theorem z5J:Sn 1=⟨#[49]⟩:=by decide +kernel
theorem rf (n:Nat):(Sn n).toList=Lib.decDigits n:=by rw[toList_data,bQ]
theorem z0q {x y:Nat}(h:x≠y):((Sn x).toList==(Sn y).toList)=false:=by
 rw[beq_eq_false_iff_ne,rf,rf];exact fun h2=>h (z5p h2)
theorem z0p {x:Nat}(h:x≠0):((Sn x).toList==[48])=false:=by
 rw[beq_eq_false_iff_ne,rf];intro h2;apply h
 rw[← gN x,h2];rfl
def Zv (z:Int):Value:=.agg #[.int .i64 z.sign,.string (Sn z.natAbs)]
def Sz (z:Int):ByteArray:=if z<0 then ⟨(45 :: Lib.decDigits z.natAbs).toArray⟩ else Sn z.natAbs
theorem jA {n:Nat}(h:n≠0):Sz (-(n:Int))=⟨(45 :: Lib.decDigits n).toArray⟩:=by
 unfold Sz;rw[if_pos (by omega),Int.natAbs_neg,Int.natAbs_natCast]
theorem dB (n:Nat):Sz (n:Int)=Sn n:=by
 unfold Sz;rw[if_neg (by omega),Int.natAbs_natCast]
theorem gZ {n:Nat}(h:n≠0):Zv (-(n:Int))=.agg #[.int .i64 (-1),.string (Sn n)]:=by
 unfold Zv;rw[Int.natAbs_neg,Int.natAbs_natCast,Int.sign_neg,Int.sign_natCast_of_ne_zero h]
theorem gY {n:Nat}(h:n≠0):Zv (n:Int)=.agg #[.int .i64 1,.string (Sn n)]:=by
 unfold Zv;rw[Int.natAbs_natCast,Int.sign_natCast_of_ne_zero h]
theorem gX:Zv 0=.agg #[.int .i64 0,.string ⟨#[48]⟩]:=by
 unfold Zv;rw[← vJ];rfl
theorem bT (z:Int):(∃ n:Nat,n≠0∧z = -(n:Int))∨z=0∨∃ n:Nat,n≠0∧z=(n:Int):=by
 rcases Int.lt_trichotomy z 0 with h|h|h
 · left;exact⟨z.natAbs,by omega,by omega⟩
 · right;left;exact h
 · right;right;exact⟨z.natAbs,by omega,by omega⟩
def FitZ (z:Int):Prop:=Fit z.natAbs
theorem FitZ.neg {n:Nat}(h:FitZ (-(n:Int))):Fit n:=by unfold FitZ at h;rwa [Int.natAbs_neg,Int.natAbs_natCast]at h
theorem FitZ.nat {n:Nat}(h:FitZ (n:Int)):Fit n:=by unfold FitZ at h;rwa [Int.natAbs_natCast]at h
theorem Fit.neg {n:Nat}(h:Fit n):FitZ (-(n:Int)):=by unfold FitZ;rwa [Int.natAbs_neg,Int.natAbs_natCast]
theorem Fit.nat {n:Nat}(h:Fit n):FitZ (n:Int):=by unfold FitZ;rwa [Int.natAbs_natCast]
theorem fit0:Fit 0:=(show Sm 1 0 by simp[Sm]).mono (by decide)
theorem fit1:Fit 1:=(show Sm 1 1 by simp[Sm]).mono (by decide)
theorem gB (s:Int)(b:ByteArray)(h1 : -1≤s)(h2:s≤1)(w:World) :
 CR 216 #[.agg #[.int .i64 s,.string b]] w (.agg #[.int .i64 (-s),.string b]):=by
 go_enter func216,ntmps216
 go_wp2;refine bodyPost_ret (v:=.agg #[.int .i64 (-s),.string b]) (by simp[results,results216,go_sem]) rfl ⟨rfl,?_⟩;repeat (first|exact Below.refl _ _|refine Below.setCell ?_ (by simp) _|refine Below.alloc ?_ (by simp) _|refine Below.drew ?_)
theorem iH (z:Int)(w:World) :
 CR 216 #[Zv z] w (Zv (-z)):=by
 have h:=gB z.sign (Sn z.natAbs) (by rcases Int.sign_trichotomy z with h|h|h<;>omega) (by rcases Int.sign_trichotomy z with h|h|h<;>omega) w;unfold Zv
 rw[Int.sign_neg,Int.natAbs_neg];exact h
theorem iT (z:Int)(hf:FitZ z)(w:World) :
 CR 156 #[Zv z] w (.string (Sz z)):=by
 rcases bT z with⟨n,hn,rfl⟩|rfl|⟨n,hn,rfl⟩
 · rw[gZ hn,jA hn]
   have hadd:=run_string_add_sum (P:=Tryz.prog) (w.alloc (.cells #[.int .i64 (-1),.string (Sn n)] 142)) ⟨#[45]⟩ (Sn n) (by have:=hf.neg.size;have e:(⟨#[45]⟩:ByteArray).size=1:=rfl;omega);clear hn hf;go_enter func156,ntmps156
   go_wp2;go_ret
   refine⟨?_,(Below.refl _ _).alloc (Nat.le_refl _) _⟩
   have e:(⟨#[45]⟩:ByteArray)++Sn n=⟨(45 :: Lib.decDigits n).toArray⟩:=by
    apply ByteArray.ext
    apply Array.ext'
    simp[Sn]
   rw[e];rfl
 · rw[gX,show Sz 0=⟨#[48]⟩from(dB 0).trans vJ]
   go_enter func156,ntmps156
   go_wp2;go_ret
   exact⟨rfl,(Below.refl _ _).alloc (Nat.le_refl _) _⟩
 · rw[gY hn,dB]
   go_enter func156,ntmps156
   go_wp2;go_ret
   exact⟨rfl,(Below.refl _ _).alloc (Nat.le_refl _) _⟩
theorem vK (s:Int)(w:World)(hz:Zz w) :
 CR 144 #[.int .i64 s,.string ⟨#[48]⟩] w (Zv 0):=by
 rw[gX];obtain⟨h0,h1,h2⟩:=hz;go_enter func144,ntmps144
 go_wp2;refine bodyPost_ret (v:=.agg #[.int .i64 0,.string ⟨#[48]⟩]) (by simp[results,results144,go_sem]) rfl ⟨rfl,?_⟩;repeat (first|exact Below.refl _ _|refine Below.setCell ?_ (by simp) _|refine Below.alloc ?_ (by simp) _|refine Below.drew ?_)
theorem vL (s:Int)(n:Nat)(hn:n≠0)(w:World) :
 CR 144 #[.int .i64 s,.string (Sn n)] w (.agg #[.int .i64 s,.string (Sn n)]):=by
 have h0:=z0p hn;clear hn;go_enter func144,ntmps144
 go_wp2;refine bodyPost_ret (v:=.agg #[.int .i64 s,.string (Sn n)]) (by simp[results,results144,go_sem]) rfl ⟨rfl,?_⟩;repeat (first|exact Below.refl _ _|refine Below.setCell ?_ (by simp) _|refine Below.alloc ?_ (by simp) _|refine Below.drew ?_)
theorem ma (s:Int)(n:Nat)(z:Int)(hz:z=s*(n:Int))(hs:s=1∨s = -1)(w:World)(hl:Zz w) :
 CR 144 #[.int .i64 s,.string (Sn n)] w (Zv z):=by
 by_cases hn:n=0
 · subst hn
   obtain rfl:z=0:=by rw[hz];simp
   rw[vJ];exact vK s w hl
 · have h:=vL s n hn w
   rcases hs with rfl|rfl
   · rw[show z=(n:Int) by omega,gY hn];exact h
   · rw[show z = -(n:Int) by omega,gZ hn];exact h
