/- texts -/
import Derived.Test.YtodcdibanokjjaaGreatDoorMz10q
import Derived.Deep.LoopGhost
import Derived.Test.YtodcdibanokjjaaGreatDoorKe
import Derived.Deep.RegionHeld3
import Derived.Test.YtodcdibanokjjaaGreatDoorCards
import Derived.Test.YtodcdibanokjjaaGreatDoorTie
import Derived.ProofKit
import Derived.LaidMore
import Derived.OpenShut
open Go.Proofs.Tryz
namespace Go.Gb
open Go Go.RowKit
theorem gp {w:World}{g:Nat}{T:TypeId}{x0 x1 a b:Value}(h:SBk w g #[x0,x1] T):SBk (storeAll w g 0 [a,b]) g #[a,b] T:=by
 have:=bS [a,b] 0 h;simpa [vJ] using this
theorem fP (w:World)(g:Nat)(a b:Value):storeAll w g 0 [a,b]=(w.setCell ⟨g,0,none⟩ a).setCell ⟨g,1,none⟩ b:=rfl
theorem bD {w:World}{g:Nat}{T:TypeId}{x0 x1 x2 a b c:Value}(h:SBk w g #[x0,x1,x2] T):SBk (storeAll w g 0 [a,b,c]) g #[a,b,c] T:=by
 have:=bS [a,b,c] 0 h;simpa [vJ] using this
theorem eu (w:World)(g:Nat)(a b c:Value):storeAll w g 0 [a,b,c]=((w.setCell ⟨g,0,none⟩ a).setCell ⟨g,1,none⟩ b).setCell ⟨g,2,none⟩ c:=rfl
theorem d9 (W:World)(o:Obj):Below W.heap.size W (W.alloc o):=(Below.refl W.heap.size W).alloc (Nat.le_refl _) o
theorem rG (s:Nat)(v:Value):∀ (L:List (Nat × Value)) (t:Array Value),putL (L++[(s,v)]) t=(putL L t).setIfInBounds s v
 | [],_=>rfl
 | p :: L,t=>rG s v L (t.setIfInBounds p.1 p.2)
theorem jv {a:Act}{L L':List (Nat × Value)}{t:Array Value}{b:Act}{s:Nat}{v:Value}(h:a=⟨putL L t,b.defers⟩)(hL:L++[(s,v)]=L'):(⟨a.tmps.setIfInBounds s v,a.defers⟩:Act)=⟨putL L' t,b.defers⟩:=by
 subst hL;rw[rG,h]
end Go.Gb
namespace Go.Proofs.YtodcdibanokjjaaGreatDoor
open Go.RowKit Go.Gb
def z5n (a b:Nat):Prop:=∀ (v1 v2:Value) (w:World),Rd .u64 w v1 (ae a)→Rd .u64 w v2 (ae b) →
    Calls Tryz.prog 245 #[v1,v2] w fun e w'=>∃ v,e=.returned v∧Gb.Own .u64 120 w.heap.size w' v (ae (a+b))∧Below w.heap.size w w'
open Go.Lib (hid)
theorem gX {a b K:Nat}(ha:(ae a).length≤K)(hb:(ae b).length≤K):(ae (a+b)).length≤K+1:=by
 refine bJ ?_;have h1:=dA a;have h2:=dA b;have h3:BB^(ae a).length≤BB^K:=Nat.pow_le_pow_right bK ha;have h4:BB^(ae b).length≤BB^K:=Nat.pow_le_pow_right bK hb;have h6:BB^(K+1)=BB^K*BB:=Nat.pow_succ BB K;have h7:BB^K*2≤BB^K*BB:=Nat.mul_le_mul_left _ o6;generalize BB^K=P at *;generalize BB^(K+1)=Q at *;omega
set_option maxHeartbeats 2000000 in
theorem z3b (a b:ByteArray)(ha:vld a.data.toList=true)(hb:vld b.data.toList=true)(hs:19≤a.size∨19≤b.size)(hla:a.size≤100000)(hlb:b.size≤100000)(hok:z5n (aK a.data.toList) (aK b.data.toList))(w:World)(htab:Tb w) :
 CR 228 #[.string a,.string b] w (.tuple #[St (Lib.decDigits (aK a.data.toList+aK b.data.toList)),.int .i64 0]):=by
 obtain ⟨HA,HB,HT,HOK⟩:=aG ha hb htab hok;have Hla:=hid (show a.size≤maxLen by unfold maxLen;omega);have Hlb:=hid (show b.size≤maxLen by unfold maxLen;omega);have hra:=hid (bH ha);have hrb:=hid (bH hb)
 have hlp:(ae (aK a.data.toList+aK b.data.toList)).length≤100000:=by
  have g1:=di (bH ha) 20000 (by rw[aH];omega);have g2:=di (bH hb) 20000 (by rw[aH];omega);have g3:=gX g1 g2;omega
 have HLP:=hid hlp;have hmx:¬ max (a.size:Int) (b.size:Int)<19:=by omega
 clear ha hb htab hok hlp hs;go_enter func228,ntmps228
 go_wp2_with fail
 refine(bN a HA.out Hla.out _).mono ?_;rintro e w' ⟨rfl,rfl⟩;go_wp2_with fail
 refine(bN b HB.out Hlb.out _).mono ?_;rintro e w' ⟨rfl,rfl⟩;go_wp2_with fail
 refine(fO a hra.out hla _).mono ?_;rintro e w1 ⟨v1,rfl,ho1,hb1⟩;have HB1:=hid hb1;have HO1:=hid ho1;clear hb1 ho1;go_wp2_with fail
 refine(fO b hrb.out hlb _).mono ?_;rintro e w2 ⟨v2,rfl,ho2,hb2⟩;have HB2:=hbt HB1 hb2;have hm:=hid (HOK.out v1 v2 w2 (HO1.out.rd.below hb2) ho2.rd);clear hb2 ho2;go_wp2_with fail
 refine hm.out.mono ?_;rintro e w3 ⟨v3,rfl,ho3,hb3⟩;have HB3:=hbt HB2 hb3;have hwr:=hid (iJ v3 _ HLP.out w3 ho3.rd (HT.out.on HB3.out));clear hb3 ho3;go_wp2_with fail
 refine hwr.out.mono ?_;rintro e w4 ⟨rfl,hb4⟩;have HB4:=hbt HB3 hb4;clear hb4;go_wp2;go_ret2
 exact⟨rfl,HB4.out⟩
set_option maxHeartbeats 2000000 in
theorem uY (v1 v2:Value)(a b:Nat)(hab:¬ a<b)(hlb:2≤(ae b).length)(hl:(ae a).length≤90000)(w:World)(h1:Rd .u64 w v1 (ae a))(h2:Rd .u64 w v2 (ae b)) :
 Calls Tryz.prog 222 #[v1,v2] w fun e w'=>∃ q r,e=.returned (.tuple #[q,r])∧Gb.Own .u64 120 w.heap.size w' q (ae (a / b))∧Gb.Own .u64 120 w.heap.size w' r (ae (a%b))∧Below w.heap.size w w':=by
 have hless:=mR v1 v2 a b (by omega) w h1 h2;rw[show decide (a<b)=false by simpa using hab]at hless;have hlong:=fun(w':World) (hb:Below w.heap.size w w')=>uH v1 v2 a b hlb (by omega) hl w' (h1.below hb) (h2.below hb);obtain⟨b2,o2,c2,rfl,_,_,k2,r2⟩:=dE h2 (by omega);generalize hn:(ae b).length=n at *;obtain ⟨HL,HD,Hn⟩:=ai hless hlong hn;have hne:((n:Int)==1)=false:=beq_eq_false_iff_ne.2 (by omega);clear hless h1 h2 hab hl hlong r2 hn;go_enter func222,ntmps222
 go_wp2_with fail
 refine HL.out.mono ?_;rintro e w1 ⟨rfl,hb1⟩;have HDw:=hid (HD.out w1 hb1);have HB1:=hid hb1;clear hb1;go_wp2_with fail
 refine HDw.out.mono ?_;rintro e w2 ⟨q,r,rfl,hq,hr,hb2⟩;have HQ:=hid (hq.mono HB1.out.size);have HR:=hid (hr.mono HB1.out.size);have HB2:=hbt HB1 hb2;clear hq hr hb2;go_wp2;go_ret2
 exact⟨q,r,rfl,HQ.out,HR.out,HB2.out⟩
theorem pF (v1 v2:Value)(a b:Nat)(hb:b≠0)(hl:(ae a).length≤90000)(w:World)(h1:Rd .u64 w v1 (ae a))(h2:Rd .u64 w v2 (ae b)) :
 Calls Tryz.prog 222 #[v1,v2] w fun e w'=>∃ q r,e=.returned (.tuple #[q,r])∧Gb.Own .u64 120 w.heap.size w' q (ae (a / b))∧Gb.Own .u64 120 w.heap.size w' r (ae (a%b))∧Below w.heap.size w w':=by
 by_cases hab:a<b
 · exact(uZ v1 v2 a b hab (by omega) w h1 h2).mono fun e w' ⟨r,he,hr,hb⟩=>⟨_,r,he,by rw[Nat.div_eq_of_lt hab,aS];exact Gb.Own.nil _ _ _ _,by rw[Nat.mod_eq_of_lt hab];exact hr,hb⟩
 · rcases Nat.lt_or_ge (ae b).length 2 with h|h
   · exact uX v1 v2 a b hab (by have:0<(ae b).length:=by{ rw[bL hb];simp };omega) (by omega) w h1 h2
   · exact uY v1 v2 a b hab h hl w h1 h2
set_option maxHeartbeats 2000000 in
theorem ve (a b:ByteArray)(ha:vld a.data.toList=true)(hb:vld b.data.toList=true)(h0:aK b.data.toList≠0)(hab:aK b.data.toList≤aK a.data.toList)(hla:19<a.size)(hla2:a.size≤90000)(w:World)(htab:Tb w) :
 CR 226 #[.string a,.string b] w (.tuple #[St (Lib.decDigits (aK a.data.toList / aK b.data.toList)),St (Lib.decDigits (aK a.data.toList%aK b.data.toList)),.int .i64 0]):=by
 have hlen:b.size≤a.size:=by
  rcases Nat.lt_or_ge a.size b.size with h|h
  · have:=dZ ha hb (by rw[aH,aH];exact h)
    omega
  · exact h
 obtain ⟨HA,HB,HT⟩:=ai ha hb htab;have Hla:=hid (show a.size≤maxLen by unfold maxLen;omega);have Hlb:=hid (show b.size≤maxLen by unfold maxLen;omega);have hra:=hid (bH ha);have hrb:=hid (bH hb);have hne:=ja (b:=b) h0;have hcmp:=gI a b ha hb
 have hcc:cmpN (aK a.data.toList) (aK b.data.toList)=0∨cmpN (aK a.data.toList) (aK b.data.toList)=1:=by
  rcases Nat.lt_or_ge (aK b.data.toList) (aK a.data.toList) with h|h
  · exact Or.inr (ik h)
  · exact Or.inl (by rw[show aK a.data.toList=aK b.data.toList by omega];exact qE _)
 have hda:=di (bH ha) 90000 (by rw[aH];omega);obtain ⟨HDA,HQ,HM,H0,HC⟩:=aQ hda (Nat.le_trans (aP (Nat.div_le_self (aK a.data.toList) (aK b.data.toList))) hda) (Nat.le_trans (aP (Nat.mod_le (aK a.data.toList) (aK b.data.toList))) hda) h0 hcmp;have Ha9:=hid (show a.size≤100000 by omega);have Hb9:=hid (show b.size≤100000 by omega);have hl1:¬ (a.size:Int)≤19:=by omega
 have hl2:decide ((a.size:Int)≤19)=false:=decide_eq_false hl1
 have hc0:(cmpN (aK a.data.toList) (aK b.data.toList)<0)=False:=by
  rcases hcc with h|h<;>rw[h]<;>simp
 clear ha hb htab h0 hab hla hla2 hlen hcmp hda hcc;go_enter func226,ntmps226
 go_wp2_with fail
 refine(bN a HA.out Hla.out _).mono ?_;rintro e w' ⟨rfl,rfl⟩;go_wp2_with fail
 refine(bN b HB.out Hlb.out _).mono ?_;rintro e w' ⟨rfl,rfl⟩;go_wp2_with fail
 refine(HC.out _).mono ?_;rintro e w' ⟨rfl,rfl⟩;generalize cmpN (aK a.data.toList) (aK b.data.toList)=cc at *;go_wp2_with fail
 refine(fO a hra.out Ha9.out _).mono ?_;rintro e w1 ⟨v1,rfl,ho1,hb1⟩;have HB1:=hid hb1;have HO1:=hid ho1;clear hb1 ho1;go_wp2_with fail
 refine(fO b hrb.out Hb9.out _).mono ?_;rintro e w2 ⟨v2,rfl,ho2,hb2⟩;have HB2:=hbt HB1 hb2;have hm:=hid (pF v1 v2 _ _ H0.out HDA.out w2 (HO1.out.rd.below hb2) ho2.rd);clear hb2 ho2;go_wp2_with fail
 refine hm.out.mono ?_;rintro e w3 ⟨q,r,rfl,hq,hr,hb3⟩;have HB3:=hbt HB2 hb3;have hwq:=hid (iJ q _ (by have:=HQ.out;omega) w3 hq.rd (HT.out.on HB3.out));have HR:=hid hr;clear hb3 hq hr;go_wp2_with fail
 refine hwq.out.mono ?_;rintro e w4 ⟨rfl,hb4⟩;have hwr:=hid (iJ r _ (by have:=HM.out;omega) w4 (HR.out.rd.below hb4) (HT.out.on (HB3.out.trans (hb4.mono HB3.out.size))));have HB4:=hbt HB3 hb4;clear hb4;go_wp2_with fail
 refine hwr.out.mono ?_;rintro e w5 ⟨rfl,hb5⟩;have HB5:=hbt HB4 hb5;clear hb5;go_wp2;go_ret3
 exact⟨rfl,HB5.out⟩
theorem yF (a b:ByteArray)(ha:vld a.data.toList=true)(hb:vld b.data.toList=true)(h0:aK b.data.toList≠0)(hla:a.size≤90000)(hlb:b.size≤90000)(w:World)(htab:Tb w) :
 CR 226 #[.string a,.string b] w (.tuple #[St (Lib.decDigits (aK a.data.toList / aK b.data.toList)),St (Lib.decDigits (aK a.data.toList%aK b.data.toList)),.int .i64 0]):=by
 rcases Nat.lt_or_ge (aK a.data.toList) (aK b.data.toList) with hab|hab
 · refine(vg a b ha hb hab (by unfold maxLen;omega) (by unfold maxLen;omega) w).mono fun e w' ⟨he,hw⟩=>⟨?_,hw▸Below.refl _ _⟩
   have hs:Value.string a=St a.data.toList:=by cases a;simp[St]
   have h0:Lib.decDigits 0=[48]:=jE [48] (by decide);rw[he,Nat.div_eq_of_lt hab,Nat.mod_eq_of_lt hab,jE _ ha,h0,hs]
 · rcases Nat.lt_or_ge 19 a.size with hs|hs
   · exact ve a b ha hb h0 hab hs hla w htab
   · exact tJ a b ha hb h0 hab hs w htab
end Go.Proofs.YtodcdibanokjjaaGreatDoor
set_option maxRecDepth 100000
set_option maxHeartbeats 20000000
open Go.Lib (hid)
namespace Go.Proofs.YtodcdibanokjjaaGreatDoor
open Go.RowKit Go.Gb
theorem z0J {a b c:Nat}{os:List Nat}(hs:cK (ae a) (ae b) os (ae a).length c)(hl:(ae b).length≤(ae a).length):aj (os++[c])=a+b∧∀ x∈os++[c],x<BB:=by
 obtain⟨h1,h2⟩:=hs.done hl;rw[az,az]at h1;exact⟨h1,h2⟩
theorem wD (v1 v2:Value)(a b:Nat)(ha:a≠0)(hlb:(ae b).length≤(ae a).length)(hl:(ae a).length≤10000)(w:World)(h1:Rd .u64 w v1 (ae a))(h2:Rd .u64 w v2 (ae b)) :
 Calls Tryz.prog 251 #[v1,v2,.func (.func 253) #[.pointer (some ⟨w.heap.size,0,none⟩)] #[]] (w.alloc (.cells #[.int .u64 0] 255)) fun e w' =>
  ∃ v,e=.returned v∧∃ (os:List Nat) (c:Nat),aj (os++[c])=a+b∧(∀ x∈os++[c],x<BB)∧os.length=(ae a).length∧Gb.Own .u64 120 (w.heap.size+1) w' v os∧Car w' w.heap.size c∧Below w.heap.size w w':=by
 obtain⟨b1,o1,c1,rfl,_,_,k1,r1⟩:=dE h1 (List.length_pos_iff.2 (by rw[bL ha];simp));have hb0:=(Below.refl w.heap.size w).alloc (Nat.le_refl _) (.cells #[.int .u64 0] 255);have hcx:∀ i,i<(ae a).length→(w.alloc (.cells #[.int .u64 0] 255)).cell? ⟨b1,o1+i,none⟩=some (.int .u64 (((ae a).getD i 0:Nat):Int)):=fun i hi=>(hb0.cell (p:=⟨b1,o1+i,none⟩) k1).trans (r1 i hi);have hz:(w.alloc (.cells #[.int .u64 0] 255)).heap.size=w.heap.size+1:=by simp
 have fin:∀ (e:Ending) (w':World),(e=.returned (.slice (some ⟨w.heap.size+1,0,none⟩) (ae a).length ((ae a).length+1))∧∃ (os:List Nat) (c:Nat),cK (ae a) (ae b) os (ae a).length c∧Blk w' (w.heap.size+1) (os++[0])∧Car w' w.heap.size c∧(w.alloc (.cells #[.int .u64 0] 255)).grownBy w' (some w.heap.size)) →
  ∃ v,e=.returned v∧∃ (os:List Nat) (c:Nat),aj (os++[c])=a+b∧(∀ x∈os++[c],x<BB)∧os.length=(ae a).length∧Gb.Own .u64 120 (w.heap.size+1) w' v os∧Car w' w.heap.size c∧Below w.heap.size w w':=by
  rintro e w' ⟨he,os,c,hs,hblk,hc,hg⟩;obtain⟨g1,g2⟩:=z0J hs hlb;have hlen:=hs.1;have hown:=hblk.own (B:=w.heap.size+1) (by omega) (by unfold maxLen;simp;omega) os.length (by simp);rw[List.take_left,hlen,List.length_append,List.length_singleton,hlen]at hown;exact⟨_,he,os,c,g1,g2,hlen,hown,hc,hb0.grown hg (by simp) (fun k hk=>by cases hk;exact Nat.le_refl _)⟩
 rcases h2 with⟨rfl,h2⟩|⟨b2,o2,c2,rfl,_,_,k2,r2⟩
 · have:=qo cK w.heap.size b1 o1 c1 none 0 (ae a) (ae b) (by omega) (w.alloc (.cells #[.int .u64 0] 255)) (zU _ _ _ (aT a) (aT b)) (cK.start _ _) (fun os i c h=>h.1) (kQ w) (by rw[hz];omega) (by omega) hcx (by rw[h2];simp)
   rw[hz,h2]at this;rw[h2]at fin;exact this.mono fin
 · have:=og cK w.heap.size b1 o1 c1 b2 o2 c2 (ae a) (ae b) (by omega) (w.alloc (.cells #[.int .u64 0] 255)) (zU _ _ _ (aT a) (aT b)) (cK.start _ _) (fun os i c h=>h.1) (kQ w) (by rw[hz];omega) (by omega) hcx (by rw[hz];omega) (by omega) (fun i hi=>(hb0.cell (p:=⟨b2,o2+i,none⟩) k2).trans (r2 i hi))
   rw[hz]at this;exact this.mono fin
theorem z4s (a b:Nat)(hab:a≠0∨b≠0)(hla:(ae a).length≤10000)(hlb:(ae b).length≤10000):z5n a b:=by
 intro v1 v2 w h1 h2;obtain⟨i0,hi,hz0,hz1,hz2⟩:=info_parts Tryz.info120;by_cases hlt:(ae a).length<(ae b).length
 · have hb:b≠0:=by intro h;rw[h,aS]at hlt;simp at hlt
   have HJ:=hid (wD v2 v1 b a hb (by omega) hlb w h2 h1);rw[Nat.add_comm b a]at HJ;clear hb;obtain⟨a1,c1,rfl⟩:=aW h1;obtain⟨a2,c2,rfl⟩:=aW h2;have Hl:=hid hlb;clear h1 h2 hab hla hlb;generalize a+b=s at *;generalize (ae a).length=m at *;generalize (ae b).length=n at *;go_enter func245,ntmps245
   go_wp2_with fail
   refine HJ.out.mono ?_;rintro e w1 ⟨v,rfl,os,c,g1,g2,g3,hown,hcar,hbw⟩;have hc1:=cell_of_one hcar;obtain ⟨HG1,HG2,HG3⟩:=ai g1 g2 g3;have HOW:=hid (show w1.ownsRow (w.heap.size+1) 120 1 v os.length (cls .u64 os) from hown);have HBW:=hid hbw;have HSZ:=hid hcar.lt;clear g1 g2 g3 hown hcar hbw;go_wp2_with (at_builtin;refine wpList_append_own _ rfl _ _ 158 rfl (w.heap.size+1) 120 i0 (.int .u64 0) 1 8 underlying158 hi hz0 hz1 hz2 rfl (by decide) _ _ _ rfl (HOW.out.alloc _) ⟨w1.heap.size,0,none⟩ 1 1 [.int .u64 (c:Int)] rfl rfl (cells_one _ _ _) (by intro u hu;simp at hu;subst hu;rfl) (by have:=HG3.out;have:=Hl.out;unfold maxLen;omega) (by have:=HG3.out;have:=Hl.out;omega) (by have:=HSZ.out;simp;omega) ?_)
   intro v' w2 hown' hgrow _;have hox:Gb.Own .u64 120 w.heap.size w2 v' (os++[c]):=(show Gb.Own .u64 120 (w.heap.size+1) w2 v' (os++[c]) by unfold Gb.Own;rw[bX,List.length_append];exact hown').mono (Nat.le_succ _);have htr:=eX 120 w.heap.size v' (os++[c]) HG2.out w2 hox;rw[HG1.out]at htr;have HTR:=hid htr;have HN:=hid ((HBW.out.alloc HBW.out.size (.cells #[.int .u64 (c:Int)] 120)).grown hgrow (by have:=HSZ.out;simp;omega) (fun k hk=>Nat.le_of_succ_le (HOW.out.lt k hk).1));clear hox htr hown' hgrow;go_wp2_with fail
   refine HTR.out.mono ?_;rintro e w3 ⟨v3,rfl,hown,rfl⟩;go_wp2;go_ret
   exact⟨v3,rfl,hown,HN.out⟩
 · have ha:a≠0:=by
    intro h;rw[h,aS]at hlt;rcases hab with h2|h2
    · exact h2 h
    · have:=List.length_pos_iff.2 (show ae b≠[]by rw[bL h2];simp)
      simp at hlt;rw[hlt]at this;simp at this
   have HJ:=hid (wD v1 v2 a b ha (by omega) hla w h1 h2);clear ha;obtain⟨a1,c1,rfl⟩:=aW h1;obtain⟨a2,c2,rfl⟩:=aW h2;have Hl:=hid hla;clear h1 h2 hab hla hlb;generalize a+b=s at *;generalize (ae a).length=m at *;generalize (ae b).length=n at *;go_enter func245,ntmps245
   go_wp2_with fail
   refine HJ.out.mono ?_;rintro e w1 ⟨v,rfl,os,c,g1,g2,g3,hown,hcar,hbw⟩;have hc1:=cell_of_one hcar;obtain ⟨HG1,HG2,HG3⟩:=ai g1 g2 g3;have HOW:=hid (show w1.ownsRow (w.heap.size+1) 120 1 v os.length (cls .u64 os) from hown);have HBW:=hid hbw;have HSZ:=hid hcar.lt;clear g1 g2 g3 hown hcar hbw;go_wp2_with (at_builtin;refine wpList_append_own _ rfl _ _ 158 rfl (w.heap.size+1) 120 i0 (.int .u64 0) 1 8 underlying158 hi hz0 hz1 hz2 rfl (by decide) _ _ _ rfl (HOW.out.alloc _) ⟨w1.heap.size,0,none⟩ 1 1 [.int .u64 (c:Int)] rfl rfl (cells_one _ _ _) (by intro u hu;simp at hu;subst hu;rfl) (by have:=HG3.out;have:=Hl.out;unfold maxLen;omega) (by have:=HG3.out;have:=Hl.out;omega) (by have:=HSZ.out;simp;omega) ?_)
   intro v' w2 hown' hgrow _;have hox:Gb.Own .u64 120 w.heap.size w2 v' (os++[c]):=(show Gb.Own .u64 120 (w.heap.size+1) w2 v' (os++[c]) by unfold Gb.Own;rw[bX,List.length_append];exact hown').mono (Nat.le_succ _);have htr:=eX 120 w.heap.size v' (os++[c]) HG2.out w2 hox;rw[HG1.out]at htr;have HTR:=hid htr;have HN:=hid ((HBW.out.alloc HBW.out.size (.cells #[.int .u64 (c:Int)] 120)).grown hgrow (by have:=HSZ.out;simp;omega) (fun k hk=>Nat.le_of_succ_le (HOW.out.lt k hk).1));clear hox htr hown' hgrow;go_wp2_with fail
   refine HTR.out.mono ?_;rintro e w3 ⟨v3,rfl,hown,rfl⟩;go_wp2;go_ret
   exact⟨v3,rfl,hown,HN.out⟩
def Sn (n:Nat):ByteArray:=⟨(Lib.decDigits n).toArray⟩
theorem bY (n:Nat):(Sn n).data.toList=Lib.decDigits n:=by simp[Sn]
theorem dV (n:Nat):vld (Sn n).data.toList=true:=by rw[bY];exact mZ n
theorem bW (n:Nat):aK (Sn n).data.toList=n:=by rw[bY];exact fI n
theorem z5u {a:ByteArray}(h:vld a.data.toList=true):a=Sn (aK a.data.toList):=by
 cases a with
 | mk d =>
   unfold Sn
   congr 1
   rw[jE _ h]
theorem z3h {x y:Nat}(h:Sn x=Sn y):x=y:=by rw[← bW x,← bW y,h]
def Sm (k n:Nat):Prop:=n<10^k
theorem Sm.mono {k l n:Nat}(h:Sm k n)(hkl:k≤l):Sm l n:=Nat.lt_of_lt_of_le h (Nat.pow_le_pow_right (by decide) hkl)
theorem Sm.le {k m n:Nat}(h:Sm k n)(hmn:m≤n):Sm k m:=Nat.lt_of_le_of_lt hmn h
theorem Sm.add {k m n:Nat}(hm:Sm k m)(hn:Sm k n):Sm (k+1) (m+n):=by
 unfold Sm at *;rw[Nat.pow_succ];omega
theorem Sm.mul {k l m n:Nat}(hm:Sm k m)(hn:Sm l n):Sm (k+l) (m*n):=by
 unfold Sm at *
 rw[Nat.pow_add];rcases Nat.eq_zero_or_pos n with h|h
 · rw[h,Nat.mul_zero];exact Nat.mul_pos (Nat.pow_pos (by decide)) (Nat.pow_pos (by decide))
 · exact Nat.mul_lt_mul_of_lt_of_le hm (Nat.le_of_lt hn) (Nat.pow_pos (by decide))
theorem Sm.of {a:ByteArray}(h:vld a.data.toList=true){k:Nat}(hl:a.size≤k):Sm k (aK a.data.toList):=by
 have h1:=gF _ (bH h);exact Nat.lt_of_lt_of_le h1 (Nat.pow_le_pow_right (by decide) (by rw[aH];exact hl))
theorem qB:∀ (k n:Nat),Sm k n→0<k→(Lib.decDigits n).length≤k
 | 0,_,_,h=>absurd h (by omega)
 | 1,n,h,_=>by
   have:n<10:=by simpa [Sm] using h
   rw[Lib.decDigits,dif_pos this];simp
 | k+2,n,h,_=>by
   by_cases h10:n<10
   · rw[Lib.decDigits,dif_pos h10];simp
   · rw[Lib.decDigits,dif_neg h10,List.length_append]
     have:=qB (k+1) (n / 10) (by unfold Sm at *;rw[Nat.pow_succ]at h;omega) (by omega);simp;omega
theorem ic {k n:Nat}(h:Sm k n)(hk:0<k):(Sn n).size≤k:=by
 have:=qB k n h hk;rw[← bY,aH]at this;exact this
theorem gu {k n:Nat}(h:Sm k n)(hk:0<k):(ae n).length≤k:=by
 have h1:=di (bH (dV n)) k (by rw[aH];have:=ic h hk;omega);rwa [bW]at h1
def Fit (n:Nat):Prop:=Sm 2000 n
theorem Fit.size {n:Nat}(h:Fit n):(Sn n).size≤2000:=ic h (by decide)
theorem Fit.max {n:Nat}(h:Fit n):(Sn n).size≤maxLen:=by have:=h.size;unfold maxLen;omega
theorem z3q (x:Nat)(hx:Fit x)(w:World) :
 Calls Tryz.prog 152 #[.string (Sn x)] w fun e w'=>e=.returned (.bool true)∧w=w' :=
 bN (Sn x) (dV x) hx.max w
theorem qj (x y:Nat)(hx:Fit x)(hy:Fit y)(w:World) :
 Calls Tryz.prog 185 #[.string (Sn x),.string (Sn y)] w fun e w'=>e=.returned (.tuple #[.int .i64 (cmpN x y),.int .i64 0])∧w=w':=by
 have h:=vk (Sn x) (Sn y) (dV x) (dV y) hx.max hy.max w;rwa [bW,bW]at h
theorem nAdd (x y:Nat)(hx:Fit x)(hy:Fit y)(w:World)(htab:Tb w) :
 CR 228 #[.string (Sn x),.string (Sn y)] w (.tuple #[.string (Sn (x+y)),.int .i64 0]):=by
 have sx:=hx.size;have sy:=hy.size;by_cases hs:(Sn x).size≤18∧(Sn y).size≤18
 · have h:=z13 (Sn x) (Sn y) (dV x) (dV y) hs.1 hs.2 w htab
   rwa [bW,bW]at h
 · have hxy:x≠0∨y≠0:=by
    rcases Nat.eq_zero_or_pos x with h0|h0
    · rcases Nat.eq_zero_or_pos y with h1|h1
      · exfalso
        subst h0 h1;have:(Sn 0).size≤1:=ic (k:=1) (by simp[Sm]) (by decide);omega
      · right;omega
    · left;omega
   have h:=z3b (Sn x) (Sn y) (dV x) (dV y) (by omega) (by omega) (by omega) (by
    rw[bW,bW]
    exact z4s x y hxy (Nat.le_trans (gu hx (by decide)) (by decide)) (Nat.le_trans (gu hy (by decide)) (by decide))) w htab
   rwa [bW,bW]at h
theorem nSub (x y:Nat)(hx:Fit x)(hyx:y≤x)(w:World)(htab:Tb w) :
 CR 227 #[.string (Sn x),.string (Sn y)] w (.tuple #[.string (Sn (x-y)),.int .i64 0]):=by
 have sx:=hx.size;have sy:=Fit.size (Sm.le hx hyx);have h:=z4x (Sn x) (Sn y) (dV x) (dV y) (by rw[bW,bW];exact hyx) (by omega) (by omega) w htab;rwa [bW,bW]at h
theorem nMul (x y:Nat)(hx:Fit x)(hy:Fit y)(w:World)(htab:Tb w) :
 CR 186 #[.string (Sn x),.string (Sn y)] w (.tuple #[.string (Sn (x*y)),.int .i64 0]):=by
 have sx:=hx.size;have sy:=hy.size;have h:=z4y (Sn x) (Sn y) (dV x) (dV y) (by omega) (by omega) w htab;rwa [bW,bW]at h
theorem z3V (x y:Nat)(hx:Fit x)(hy:Fit y)(h0:y≠0)(w:World)(htab:Tb w) :
 CR 226 #[.string (Sn x),.string (Sn y)] w (.tuple #[.string (Sn (x / y)),.string (Sn (x%y)),.int .i64 0]):=by
 have sx:=hx.size;have sy:=hy.size;have h:=yF (Sn x) (Sn y) (dV x) (dV y) (by rw[bW];exact h0) (by omega) (by omega) w htab;rwa [bW,bW]at h
end Go.Proofs.YtodcdibanokjjaaGreatDoor
namespace Go.Proofs.YtodcdibanokjjaaGreatDoor
open Go.RowKit Go.Gb
theorem eU {W w1:World}(hb:Below W.heap.size W w1):(∀ b o,b<W.heap.size→w1.cell? ⟨b,o,none⟩=W.cell? ⟨b,o,none⟩)∧(∀ b o,b<W.heap.size→w1.frozen? ⟨b,o,none⟩=W.frozen? ⟨b,o,none⟩) :=
 ⟨fun b o h=>hb.cell (p:=⟨b,o,none⟩) h,fun b o h=>hb.frozen (p:=⟨b,o,none⟩) h⟩
def Zz (w:World):Prop:=0<w.heap.size∧w.cell? ⟨0,0,none⟩=some (.int .i64 0)∧w.cell? ⟨0,1,none⟩=some (.string ⟨#[48]⟩)
theorem Zz.on {w w':World}(h:Zz w)(hb:Below w.heap.size w w'):Zz w' :=
 ⟨Nat.lt_of_lt_of_le h.1 hb.size,(hb.cell (p:=⟨0,0,none⟩) h.1).trans h.2.1,(hb.cell (p:=⟨0,1,none⟩) h.1).trans h.2.2⟩
structure La (w:World):Prop where
 tb:Tb w
 zz:Zz w
theorem La.on {w w':World}(h:La w)(hb:Below w.heap.size w w'):La w':=⟨h.tb.on hb,h.zz.on hb⟩
theorem tV:Sn 0=⟨#[48]⟩:=by decide +kernel
theorem z4L:Sn 1=⟨#[49]⟩:=by decide +kernel
theorem pR (n:Nat):(Sn n).toList=Lib.decDigits n:=by rw[toList_data,bY]
theorem zn {x y:Nat}(h:x≠y):((Sn x).toList==(Sn y).toList)=false:=by
 rw[beq_eq_false_iff_ne,pR,pR];exact fun h2=>h (z4b h2)
theorem zm {x:Nat}(h:x≠0):((Sn x).toList==[48])=false:=by
 rw[beq_eq_false_iff_ne,pR];intro h2;apply h
 rw[← fI x,h2];rfl
def Zv (z:Int):Value:=.agg #[.int .i64 z.sign,.string (Sn z.natAbs)]
def Sz (z:Int):ByteArray:=if z<0 then ⟨(45 :: Lib.decDigits z.natAbs).toArray⟩ else Sn z.natAbs
theorem iX {n:Nat}(h:n≠0):Sz (-(n:Int))=⟨(45 :: Lib.decDigits n).toArray⟩:=by
 unfold Sz;rw[if_pos (by omega),Int.natAbs_neg,Int.natAbs_natCast]
theorem dK (n:Nat):Sz (n:Int)=Sn n:=by
 unfold Sz;rw[if_neg (by omega),Int.natAbs_natCast]
theorem fZ {n:Nat}(h:n≠0):Zv (-(n:Int))=.agg #[.int .i64 (-1),.string (Sn n)]:=by
 unfold Zv;rw[Int.natAbs_neg,Int.natAbs_natCast,Int.sign_neg,Int.sign_natCast_of_ne_zero h]
theorem fV {n:Nat}(h:n≠0):Zv (n:Int)=.agg #[.int .i64 1,.string (Sn n)]:=by
 unfold Zv;rw[Int.natAbs_natCast,Int.sign_natCast_of_ne_zero h]
theorem fU:Zv 0=.agg #[.int .i64 0,.string ⟨#[48]⟩]:=by
 unfold Zv;rw[← tV];rfl
theorem bT (z:Int):(∃ n:Nat,n≠0∧z = -(n:Int))∨z=0∨∃ n:Nat,n≠0∧z=(n:Int):=by
 rcases Int.lt_trichotomy z 0 with h|h|h
 · left;exact⟨z.natAbs,by omega,by omega⟩
 · right;left;exact h
 · right;right;exact⟨z.natAbs,by omega,by omega⟩
def FitZ (z:Int):Prop:=Fit z.natAbs
theorem FitZ.neg {n:Nat}(h:FitZ (-(n:Int))):Fit n:=by unfold FitZ at h;rwa [Int.natAbs_neg,Int.natAbs_natCast]at h
theorem FitZ.nat {n:Nat}(h:FitZ (n:Int)):Fit n:=by unfold FitZ at h;rwa [Int.natAbs_natCast]at h
theorem Fit.neg {n:Nat}(h:Fit n):FitZ (-(n:Int)):=by unfold FitZ;rwa [Int.natAbs_neg,Int.natAbs_natCast]
theorem Fit.nat {n:Nat}(h:Fit n):FitZ (n:Int):=by unfold FitZ;rwa [Int.natAbs_natCast]
theorem fit0:Fit 0:=(show Sm 1 0 by simp[Sm]).mono (by decide)
theorem fit1:Fit 1:=(show Sm 1 1 by simp[Sm]).mono (by decide)
theorem fw (s:Int)(b:ByteArray)(h1 : -1≤s)(h2:s≤1)(w:World) :
 CR 203 #[.agg #[.int .i64 s,.string b]] w (.agg #[.int .i64 (-s),.string b]):=by
 go_enter func203,ntmps203
 go_wp2;refine bodyPost_ret (v:=.agg #[.int .i64 (-s),.string b]) (by simp[results,results203,go_sem]) rfl ⟨rfl,?_⟩;repeat (first|exact Below.refl _ _|refine Below.setCell ?_ (by simp) _|refine Below.alloc ?_ (by simp) _|refine Below.drew ?_)
theorem gT (z:Int)(w:World) :
 CR 203 #[Zv z] w (Zv (-z)):=by
 have h:=fw z.sign (Sn z.natAbs) (by rcases Int.sign_trichotomy z with h|h|h<;>omega) (by rcases Int.sign_trichotomy z with h|h|h<;>omega) w;unfold Zv
 rw[Int.sign_neg,Int.natAbs_neg];exact h
theorem iw (z:Int)(hf:FitZ z)(w:World) :
 CR 170 #[Zv z] w (.string (Sz z)):=by
 rcases bT z with⟨n,hn,rfl⟩|rfl|⟨n,hn,rfl⟩
 · rw[fZ hn,iX hn]
   have hadd:=run_string_add_sum (P:=Tryz.prog) (w.alloc (.cells #[.int .i64 (-1),.string (Sn n)] 149)) ⟨#[45]⟩ (Sn n) (by have:=hf.neg.size;have e:(⟨#[45]⟩:ByteArray).size=1:=rfl;omega);clear hn hf;go_enter func170,ntmps170
   go_wp2;go_ret
   refine⟨?_,(Below.refl _ _).alloc (Nat.le_refl _) _⟩
   have e:(⟨#[45]⟩:ByteArray)++Sn n=⟨(45 :: Lib.decDigits n).toArray⟩:=by
    apply ByteArray.ext
    apply Array.ext'
    simp[Sn]
   rw[e];rfl
 · rw[fU,show Sz 0=⟨#[48]⟩from(dK 0).trans tV]
   go_enter func170,ntmps170
   go_wp2;go_ret
   exact⟨rfl,(Below.refl _ _).alloc (Nat.le_refl _) _⟩
 · rw[fV hn,dK]
   go_enter func170,ntmps170
   go_wp2;go_ret
   exact⟨rfl,(Below.refl _ _).alloc (Nat.le_refl _) _⟩
theorem tX (s:Int)(w:World)(hz:Zz w) :
 CR 153 #[.int .i64 s,.string ⟨#[48]⟩] w (Zv 0):=by
 rw[fU];obtain⟨h0,h1,h2⟩:=hz;go_enter func153,ntmps153
 go_wp2;refine bodyPost_ret (v:=.agg #[.int .i64 0,.string ⟨#[48]⟩]) (by simp[results,results153,go_sem]) rfl ⟨rfl,?_⟩;repeat (first|exact Below.refl _ _|refine Below.setCell ?_ (by simp) _|refine Below.alloc ?_ (by simp) _|refine Below.drew ?_)
theorem tY (s:Int)(n:Nat)(hn:n≠0)(w:World) :
 CR 153 #[.int .i64 s,.string (Sn n)] w (.agg #[.int .i64 s,.string (Sn n)]):=by
 have h0:=zm hn;clear hn;go_enter func153,ntmps153
 go_wp2;refine bodyPost_ret (v:=.agg #[.int .i64 s,.string (Sn n)]) (by simp[results,results153,go_sem]) rfl ⟨rfl,?_⟩;repeat (first|exact Below.refl _ _|refine Below.setCell ?_ (by simp) _|refine Below.alloc ?_ (by simp) _|refine Below.drew ?_)
theorem l9 (s:Int)(n:Nat)(z:Int)(hz:z=s*(n:Int))(hs:s=1∨s = -1)(w:World)(hl:Zz w) :
 CR 153 #[.int .i64 s,.string (Sn n)] w (Zv z):=by
 by_cases hn:n=0
 · subst hn
   obtain rfl:z=0:=by rw[hz];simp
   rw[tV];exact tX s w hl
 · have h:=tY s n hn w
   rcases hs with rfl|rfl
   · rw[show z=(n:Int) by omega,fV hn];exact h
   · rw[show z = -(n:Int) by omega,fZ hn];exact h
open Go.RowKit
abbrev CL (f : FuncId) (args : Array Value) (v : Value) : Prop := ∀ W, La W → Calls Tryz.prog f args W fun e w' => e = .returned v ∧ Below W.heap.size W w'
end Go.Proofs.YtodcdibanokjjaaGreatDoor
namespace Go.Proofs.YtodcdibanokjjaaGreatDoor
open Go.ChangeShapes Go.WideShapes Go.ChangeAt Go.WideMaps Go.WideElems Go.RowKit
theorem own:ownKnob Tryz.prog.godebug=none:=by kernel_rfl
theorem gTab:Tryz.prog.globalNamed "internal/strconv.uint64pow10" = some 2:=by kernel_rfl
theorem wF:(Tryz.prog.globals[2]?).map (·.type)=some 221:=by kernel_rfl
theorem wR:Tryz.prog.cellsOf 221=20:=by kernel_rfl
theorem wQ:Tryz.prog.cellsOf 120=1:=by kernel_rfl
def wC:List (String × DataW Unit):=[("math/bits.deBruijn32tab",Rows.laid_math_bits_deBruijn32tab),("math/bits.deBruijn64tab",Rows.laid_math_bits_deBruijn64tab),("internal/strconv.uint64pow10",Rows.laid_internal_strconv_uint64pow10),("strconv.ErrRange",Rows.laid_strconv_ErrRange),("strconv.ErrSyntax",Rows.laid_strconv_ErrSyntax)]
theorem z4z {W:World}(h:laidMetH Tryz.prog wC W):Tb W:=by
 rw[MakeChecks.laidMetH_plain _ _ _ (by kernel_rfl)]at h;obtain⟨ps,⟨g0,t0,cs0,f0,p0,q0,hg0,ht0,hv0,hd0,⟨g1,t1,cs1,f1,p1,q1,hg1,ht1,hv1,hd1,⟨g2,t2,cs2,f2,p2,q2,hg2,ht2,hv2,hd2,_,_⟩,_⟩,_⟩,_,_⟩:=h;obtain rfl:=Option.some.inj (gTab.symm.trans hg2);obtain rfl:=Option.some.inj (wF.symm.trans ht2);unfold Tb Lib.TabIs
 rw[hv2];congr 1
 apply Array.ext'
 rw[Lib.cells_of_tab (k:=.u64) (zs:=Lib.pow10Tab) underlying221 underlying120 wQ wR hd2]
theorem z5o (os:Os)(args:Array Value):laidMetH Tryz.prog wC ((World.doorLaid Tryz.prog 4000 os).forCall (fun _ _=>0) ⟨#[],args,[]⟩).memory:=by
 rw[MakeChecks.laidMetH_plain _ _ _ (by kernel_rfl)];exact laidMet_of_run' 8 (by kernel_rfl) (by kernel_rfl)
theorem z3Y:Tryz.prog.globalNamed "garboard/integer.zero" = some 0:=by kernel_rfl
theorem z0e:(Tryz.prog.globals[0]?).map (·.type)=some 149:=by kernel_rfl
def jd:List (String × DataW Unit):=[("math/bits.deBruijn32tab",Rows.laid_math_bits_deBruijn32tab),("math/bits.deBruijn64tab",Rows.laid_math_bits_deBruijn64tab),("internal/strconv.uint64pow10",Rows.laid_internal_strconv_uint64pow10),("strconv.ErrRange",Rows.laid_strconv_ErrRange),("strconv.ErrSyntax",Rows.laid_strconv_ErrSyntax),("garboard/integer.zero",Rows.laid_garboard_integer_zero)]
theorem xN {W:World}(h:laidMetH Tryz.prog jd W):La W:=by
 rw[MakeChecks.laidMetH_plain _ _ _ (by kernel_rfl)]at h;obtain⟨ps,⟨g0,t0,cs0,f0,p0,q0,hg0,ht0,hv0,hd0,⟨g1,t1,cs1,f1,p1,q1,hg1,ht1,hv1,hd1,⟨g2,t2,cs2,f2,p2,q2,hg2,ht2,hv2,hd2,⟨g3,t3,cs3,f3,p3,q3,hg3,ht3,hv3,hd3,⟨g4,t4,cs4,f4,p4,q4,hg4,ht4,hv4,hd4,⟨g5,t5,cs5,f5,p5,q5,hg5,ht5,hv5,hd5,_,_⟩,_⟩,_⟩,_⟩,_⟩,_⟩,_,_⟩:=h;obtain rfl:=Option.some.inj (gTab.symm.trans hg2);obtain rfl:=Option.some.inj (wF.symm.trans ht2);obtain rfl:=Option.some.inj (z3Y.symm.trans hg5);obtain rfl:=Option.some.inj (z0e.symm.trans ht5);refine⟨?_,?_⟩
 · unfold Tb Lib.TabIs
   rw[hv2];congr 1
   apply Array.ext'
   rw[Lib.cells_of_tab (k:=.u64) (zs:=Lib.pow10Tab) underlying221 underlying120 wQ wR hd2]
 · obtain⟨k0,k1,hu,e0,o0,e1,o1⟩:∃ k0 k1:Field,Tryz.prog.underlying 149=some (.struct #[k0,k1])∧k0.type=3∧k0.offset=0∧k1.type=9∧k1.offset=1:=⟨_,_,underlying149,rfl,rfl,rfl,rfl⟩
   obtain⟨y0,y1,n,hx,hlen,h0,h1⟩:=trod_struct2 hu hd5;rw[e0,o0]at h0;rw[e1,o1]at h1;obtain⟨m,hc0,hy0,_⟩:=DataW.trod_int underlying3 h0;obtain⟨s,hc1,hy1,_⟩:=DataW.trod_string underlying9 h1;subst hy0 hy1;have hc:Tryz.prog.cellsOf 149=2:=by kernel_rfl
   have hci:Tryz.prog.cellsOf 3=1:=by kernel_rfl
   have hcs:Tryz.prog.cellsOf 9=1:=by kernel_rfl
   rw[hc]at hlen;rw[hci]at hc0;rw[hcs]at hc1
   have hd:m=0∧s.data.toList=[48]:=by
    have:=congrArg Prod.fst hx;simpa [Rows.laid_garboard_integer_zero,eq_comm] using this
   obtain⟨rfl,hs⟩:=hd
   have hs':s=⟨#[48]⟩:=by
    cases s with
    | mk d=>exact congrArg ByteArray.mk (Array.ext' hs)
   subst hs'
   have hl:cs5.toList=[.int .i64 0,.string ⟨#[48]⟩]:=by
    match hcs5:cs5.toList,hlen with
    | [a,b],_ =>
      rw[hcs5]at hc0 hc1;simp at hc0 hc1
      rw[hc0,hc1]
   have g0':=World.var?_cell z3Y hv5 0;have g1':=World.var?_cell z3Y hv5 1;have ha:cs5=#[.int .i64 0,.string ⟨#[48]⟩]:=Array.ext' hl;rw[ha]at g0' g1';have c0:W.cell? ⟨0,0,none⟩=some (.int .i64 0):=by simpa using g0'
   have c1:W.cell? ⟨0,1,none⟩=some (.string ⟨#[48]⟩):=by simpa using g1'
   exact⟨World.block_lt_of_cell? W _ c0,c0,c1⟩
theorem z0r (os:Os)(args:Array Value):laidMetH Tryz.prog jd ((World.doorLaid Tryz.prog 4000 os).forCall (fun _ _=>0) ⟨#[],args,[]⟩).memory:=by
 rw[MakeChecks.laidMetH_plain _ _ _ (by kernel_rfl)];exact laidMet_of_run' 8 (by kernel_rfl) (by kernel_rfl)
end Go.Proofs.YtodcdibanokjjaaGreatDoor
