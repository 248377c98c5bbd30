/- texts -/
import Derived.Test.YtoaeaiiabelhkaaGreatDoorMz6q
import Derived.Test.YtoaeaiiabelhkaaGreatDoorMz7q
open Go.Proofs.Tryz
set_option maxRecDepth 100000
set_option maxHeartbeats 20000000
open Go.Lib (hid)
namespace Go.Proofs.YtoaeaiiabelhkaaGreatDoor
open Go.RowKit Go.Gb
theorem lm (w:World):Car (w.alloc (.cells #[.int .u64 0] 257)) w.heap.size 0:=by unfold Car;rw[heap_alloc_new];rfl
theorem dD {l:List UInt8}(h:l.all isD=true)(k:Nat)(hl:l.length≤9*k):(ae (aI l)).length≤k:=by
 refine bL (Nat.lt_of_lt_of_le (gT l h) ?_);rw[show BB=10^9 from by rw[aG],← Nat.pow_mul];exact Nat.pow_le_pow_right (by decide) hl
theorem sW (v1 v2:Value)(a b:Nat)(hab:b≤a)(ha:a≠0)(hl:(ae a).length≤100000)(w:World)(h1:Rd .u64 w v1 (ae a))(h2:Rd .u64 w v2 (ae b)) :
 Calls Tryz.prog 249 #[v1,v2] w fun e w'=>∃ v,e=.returned v∧Gb.Own .u64 112 w.heap.size w' v (ae (a-b))∧Below w.heap.size w w':=by
 obtain⟨b1,o1,c1,rfl,_,_,k1,r1⟩:=dM h1 (List.length_pos_iff.2 (by rw[bP ha];simp));have hb0:=(Below.refl w.heap.size w).alloc (Nat.le_refl _) (.cells #[.int .u64 0] 257)
 have hj:Calls Tryz.prog 256 #[.slice (some ⟨b1,o1,none⟩) (ae a).length c1,v2,.func (.func 257) #[.pointer (some ⟨w.heap.size,0,none⟩)] #[]] (w.alloc (.cells #[.int .u64 0] 257)) fun e w' =>
  e=.returned (.slice (some ⟨w.heap.size+1,0,none⟩) (ae a).length ((ae a).length+1))∧∃ (os:List Nat) (c:Nat),eF (ae a) (ae b) os (ae a).length c∧Blk w' (w.heap.size+1) (os++[0])∧Car w' w.heap.size c∧(w.alloc (.cells #[.int .u64 0] 257)).grownBy w' (some w.heap.size):=by
  have hcx:∀ i,i<(ae a).length→(w.alloc (.cells #[.int .u64 0] 257)).cell? ⟨b1,o1+i,none⟩=some (.int .u64 (((ae a).getD i 0:Nat):Int)):=fun i hi=>(hb0.cell (p:=⟨b1,o1+i,none⟩) k1).trans (r1 i hi);have hz:(w.alloc (.cells #[.int .u64 0] 257)).heap.size=w.heap.size+1:=by simp
  rcases h2 with⟨rfl,h2⟩|⟨b2,o2,c2,rfl,_,_,k2,r2⟩
  · have:=oQ eF w.heap.size b1 o1 c1 none 0 (ae a) (ae b) hl (w.alloc (.cells #[.int .u64 0] 257)) (yt _ _ _ (aR a) (aR b)) (eF.start _ _) (fun os i c h=>h.1) (lm w) (by rw[hz];omega) (by omega) hcx (by rw[h2];simp)
    rw[hz,h2]at this;rw[h2];exact this
  · have:=nU eF w.heap.size b1 o1 c1 b2 o2 c2 (ae a) (ae b) hl (w.alloc (.cells #[.int .u64 0] 257)) (yt _ _ _ (aR a) (aR b)) (eF.start _ _) (fun os i c h=>h.1) (lm w) (by rw[hz];omega) (by omega) hcx (by rw[hz];omega) (by omega) (fun i hi=>(hb0.cell (p:=⟨b2,o2+i,none⟩) k2).trans (r2 i hi))
    rw[hz]at this;exact this
 obtain ⟨HJ,HAB,HL⟩:=ak hj hab hl;clear hj h1 h2 r1 hb0 hab ha hl;go_enter func249,ntmps249
 go_wp2_with fail
 refine HJ.o.mono ?_;rintro e w1 ⟨rfl,os,c,hd,hblk,_,hg⟩;obtain⟨g1,g2⟩:=hd.done (aP HAB.o) (by rw[az,az];exact HAB.o);rw[az,az]at g1;have hlen:=hd.1;have hown:=hblk.own (B:=w.heap.size) (by omega) (by have:=HL.o;unfold maxLen;simp;omega) os.length (by simp);rw[List.take_left,hlen,List.length_append,List.length_singleton,hlen]at hown;have htr:=fC 112 w.heap.size _ os g2 w1 hown;rw[g1]at htr;have HTR:=hid htr;have HB:=hid (((Below.refl w.heap.size w).alloc (Nat.le_refl _) (.cells #[.int .u64 0] 257)).grown hg (by simp) (fun k hk=>by cases hk;exact Nat.le_refl _));clear hd hblk hg g1 g2 hown htr hlen;go_wp2_with fail
 refine HTR.o.mono ?_;rintro e w2 ⟨v,rfl,hown,rfl⟩;go_wp2;go_ret
 exact⟨v,rfl,hown,HB.o⟩
theorem nC (u:Int)(h0:0≤u)(h1:u<18446744073709551616)(w:World)(htab:Tb w) :
 CR 224 #[.int .u64 u] w (.string ⟨(Lib.decDigits u.toNat).toArray⟩):=by
 obtain⟨n,rfl⟩:=Int.eq_ofNat_of_zero_le h0;exact nD n (by omega) w htab
theorem iA (a b:Nat):(ae (a*b)).length≤(ae a).length+(ae b).length:=by
 refine bL ?_;rw[Nat.pow_add];rcases Nat.eq_zero_or_pos b with h|h
 · rw[h,Nat.mul_zero];exact Nat.mul_pos (Nat.pow_pos bN) (Nat.pow_pos bN)
 · exact Nat.mul_lt_mul_of_lt_of_le (dG a) (Nat.le_of_lt (dG b)) (Nat.pow_pos bN)
def St (l:List UInt8):Value:=.string ⟨l.toArray⟩
theorem bH {l:List UInt8}(h:vld l=true):l.all isD=true:=((gJ l).1 h).2.1
theorem z4D {s:ByteArray}(h:vld s.data.toList=true)(hl:s.size≤18):aI s.data.toList<1000000000000000000:=by
 have h1:=gT _ (bH h);have h2:10^s.data.toList.length≤10^18:=Nat.pow_le_pow_right (by decide) (by rw[aF];exact hl);omega
theorem z4C {s:ByteArray}(h:vld s.data.toList=true)(hl:s.size≤19):aI s.data.toList<10000000000000000000:=by
 have h1:=gT _ (bH h);have h2:10^s.data.toList.length≤10^19:=Nat.pow_le_pow_right (by decide) (by rw[aF];exact hl);omega
theorem z2o (a b:ByteArray)(ha:vld a.data.toList=true)(hb:vld b.data.toList=true)(hla:a.size≤18)(hlb:b.size≤18)(w:World)(htab:Tb w) :
 CR 237 #[.string a,.string b] w (.tuple #[St (Lib.decDigits (aI a.data.toList+aI b.data.toList)),.int .i64 0]):=by
 obtain ⟨HA,HB,HT⟩:=ak ha hb htab;have Hla:=hid (show a.size≤maxLen by unfold maxLen;omega);have Hlb:=hid (show b.size≤maxLen by unfold maxLen;omega);have hba:=z4D ha hla;have hbb:=z4D hb hlb;have HBA:=hid hba;have HBB:=hid hbb;clear ha hb htab hba hbb;go_enter func237,ntmps237
 go_wp2_with fail
 refine(bT a HA.o Hla.o _).mono ?_;rintro e w' ⟨rfl,rfl⟩;go_wp2_with fail
 refine(bT b HB.o Hlb.o _).mono ?_;rintro e w' ⟨rfl,rfl⟩;go_wp2_with fail
 refine(ig a HA.o (by omega) _).mono ?_;rintro e w1 ⟨rfl,hb1⟩;have uu:=hid hb1;clear hb1;go_wp2_with fail
 refine(ig b HB.o (by omega) _).mono ?_;rintro e w2 ⟨rfl,hb2⟩;have u6:=hbt uu hb2;clear hb2;generalize hxx:aI a.data.toList=x at *;generalize hyy:aI b.data.toList=y at *;have HXX:=hid hxx;have HYY:=hid hyy;clear hxx hyy;have hx:=HBA.o;have hy:=HBB.o;have hsum:IntKind.u64.wrap ((x:Int)+(y:Int))=(x:Int)+(y:Int):=IntWalk.u64_in _ (by omega);have hwr:=hid (nC ((x:Int)+(y:Int)) (by omega) (by omega) w2 (HT.o.on u6.o));clear hx hy;go_wp2_with fail
 refine hwr.o.mono ?_;rintro e w3 ⟨rfl,hb3⟩;rw[show((x:Int)+(y:Int)).toNat=x+y by omega];have w9:=hbt u6 hb3;clear hb3 hsum;go_wp2;go_ret2
 refine⟨?_,w9.o⟩;rw[HXX.o,HYY.o];rfl
theorem z5O (a b:ByteArray)(ha:vld a.data.toList=true)(hb:vld b.data.toList=true)(hla:a.size≤100000)(hlb:b.size≤100000)(w:World)(htab:Tb w) :
 CR 191 #[.string a,.string b] w (.tuple #[St (Lib.decDigits (aI a.data.toList*aI b.data.toList)),.int .i64 0]):=by
 obtain ⟨HA,HB,HT⟩:=ak ha hb htab;have Hla:=hid (show a.size≤maxLen by unfold maxLen;omega);have Hlb:=hid (show b.size≤maxLen by unfold maxLen;omega);have hda:=hid (dD (bH ha) 100000 (by rw[aF];omega));have hdb:=hid (dD (bH hb) 100000 (by rw[aF];omega));by_cases hs:a.size+b.size≤19
 · have h1:=gT _ (bH ha)
   have h2:=gT _ (bH hb)
   have h3:aI a.data.toList*aI b.data.toList<10000000000000000000:=by
    have h4:aI a.data.toList*aI b.data.toList≤aI a.data.toList*10^b.data.toList.length:=Nat.mul_le_mul_left _ (Nat.le_of_lt h2);have h5:aI a.data.toList*10^b.data.toList.length<10^a.data.toList.length*10^b.data.toList.length:=Nat.mul_lt_mul_of_pos_right h1 (Nat.pow_pos (by decide));rw[← Nat.pow_add]at h5;have h6:10^(a.data.toList.length+b.data.toList.length)≤10^19:=Nat.pow_le_pow_right (by decide) (by rw[aF,aF];exact hs);omega
   have H3:=hid h3;clear ha hb htab h1 h2 h3;go_enter func191,ntmps191
   go_wp2_with fail
   refine(bT a HA.o Hla.o _).mono ?_;rintro e w' ⟨rfl,rfl⟩;go_wp2_with fail
   refine(bT b HB.o Hlb.o _).mono ?_;rintro e w' ⟨rfl,rfl⟩;go_wp2_with fail
   refine(ig a HA.o (by omega) _).mono ?_;rintro e w1 ⟨rfl,hb1⟩;have uu:=hid hb1;clear hb1;go_wp2_with fail
   refine(ig b HB.o (by omega) _).mono ?_;rintro e w2 ⟨rfl,hb2⟩;have u6:=hbt uu hb2;clear hb2;generalize hxx:aI a.data.toList=x at *;generalize hyy:aI b.data.toList=y at *;have HXX:=hid hxx;have HYY:=hid hyy;clear hxx hyy;obtain⟨p,hp⟩:∃ p:Nat,p=x*y:=⟨_,rfl⟩;have hpi:(x:Int)*(y:Int)=(p:Int):=by rw[hp];exact(Int.natCast_mul _ _).symm
   have hpb:=H3.o;rw[← hp]at hpb;have hw1:IntKind.u64.wrap (p:Int)=(p:Int):=IntWalk.u64_in _ (by omega);have hwr:=hid (nC (p:Int) (by omega) (by omega) w2 (HT.o.on u6.o));have HP:=hid hp;clear hpb hp;go_wp2_with fail
   refine hwr.o.mono ?_;rintro e w3 ⟨rfl,hb3⟩;rw[Int.toNat_natCast,HP.o];have w9:=hbt u6 hb3;clear hb3 hw1 hpi;go_wp2;go_ret2
   refine⟨?_,w9.o⟩;rw[HXX.o,HYY.o];rfl
 · have hra:=hid (bH ha)
   have hrb:=hid (bH hb)
   have hlp:(ae (aI a.data.toList*aI b.data.toList)).length≤100000:=by
    have g1:=dD (bH ha) 20000 (by rw[aF];omega);have g2:=dD (bH hb) 20000 (by rw[aF];omega);have g3:=iA (aI a.data.toList) (aI b.data.toList);omega
   have HLP:=hid hlp;clear ha hb htab hlp;go_enter func191,ntmps191
   go_wp2_with fail
   refine(bT a HA.o Hla.o _).mono ?_;rintro e w' ⟨rfl,rfl⟩;go_wp2_with fail
   refine(bT b HB.o Hlb.o _).mono ?_;rintro e w' ⟨rfl,rfl⟩;go_wp2_with fail
   refine(gD a hra.o hla _).mono ?_;rintro e w1 ⟨v1,rfl,ho1,hb1⟩;have uu:=hid hb1;have HO1:=hid ho1;clear hb1 ho1;go_wp2_with fail
   refine(gD b hrb.o hlb _).mono ?_;rintro e w2 ⟨v2,rfl,ho2,hb2⟩;have u6:=hbt uu hb2;have hm:=hid (iC v1 v2 _ _ hda.o hdb.o w2 (HO1.o.rd.below hb2) ho2.rd);clear hb2 ho2;go_wp2_with fail
   refine hm.o.mono ?_;rintro e w3 ⟨v3,rfl,ho3,hb3⟩;have w9:=hbt u6 hb3;have hwr:=hid (iX v3 _ HLP.o w3 ho3.rd (HT.o.on w9.o));clear hb3 ho3;go_wp2_with fail
   refine hwr.o.mono ?_;rintro e w4 ⟨rfl,hb4⟩;have wm:=hbt w9 hb4;clear hb4;go_wp2;go_ret2
   exact⟨rfl,wm.o⟩
theorem z5N (a b:ByteArray)(ha:vld a.data.toList=true)(hb:vld b.data.toList=true)(hab:aI b.data.toList≤aI a.data.toList)(hla:a.size≤100000)(hlb:b.size≤100000)(w:World)(htab:Tb w) :
 CR 236 #[.string a,.string b] w (.tuple #[St (Lib.decDigits (aI a.data.toList-aI b.data.toList)),.int .i64 0]):=by
 obtain ⟨HA,HB,HT⟩:=ak ha hb htab;have Hla:=hid (show a.size≤maxLen by unfold maxLen;omega);have Hlb:=hid (show b.size≤maxLen by unfold maxLen;omega);have hda:=hid (dD (bH ha) 100000 (by rw[aF];omega))
 have hlen:b.size≤a.size:=by
  rcases Nat.lt_or_ge a.size b.size with h|h
  · have:=eO ha hb (by rw[aF,aF];exact h)
    omega
  · exact h
 have hcmp:=hid (gW a b ha hb);have hc0:¬ cmpN (aI a.data.toList) (aI b.data.toList)<0:=by unfold cmpN;split<;>(try split)<;>omega
 by_cases hs:a.size≤19
 · have h1:=hid (z4C ha hs)
   have HAB:=hid hab;clear ha hb htab hab;go_enter func236,ntmps236
   go_wp2_with fail
   refine(bT a HA.o Hla.o _).mono ?_;rintro e w' ⟨rfl,rfl⟩;go_wp2_with fail
   refine(bT b HB.o Hlb.o _).mono ?_;rintro e w' ⟨rfl,rfl⟩;go_wp2_with fail
   refine(hcmp.o _).mono ?_;rintro e w' ⟨rfl,rfl⟩;generalize cmpN (aI a.data.toList) (aI b.data.toList)=cc at *;go_wp2_with fail
   refine(ig a HA.o (by omega) _).mono ?_;rintro e w1 ⟨rfl,hb1⟩;have uu:=hid hb1;clear hb1;go_wp2_with fail
   refine(ig b HB.o (by omega) _).mono ?_;rintro e w2 ⟨rfl,hb2⟩;have u6:=hbt uu hb2;clear hb2;generalize hxx:aI a.data.toList=x at *;generalize hyy:aI b.data.toList=y at *;have HXX:=hid hxx;have HYY:=hid hyy;clear hxx hyy;have hxy:=HAB.o;have hx:=h1.o;have hw1:IntKind.u64.wrap ((x:Int)-(y:Int))=(x:Int)-(y:Int):=IntWalk.u64_in _ (by omega);have hwr:=hid (nC ((x:Int)-(y:Int)) (by omega) (by omega) w2 (HT.o.on u6.o));clear hx hxy;go_wp2_with fail
   refine hwr.o.mono ?_;rintro e w3 ⟨rfl,hb3⟩;rw[show((x:Int)-(y:Int)).toNat=x-y by have:=HAB.o;omega];have w9:=hbt u6 hb3;clear hb3 hw1;go_wp2;go_ret2
   refine⟨?_,w9.o⟩;rw[HXX.o,HYY.o];rfl
 · have hra:=hid (bH ha)
   have hrb:=hid (bH hb)
   have hne:aI a.data.toList≠0:=by
    intro h0;have:=jS _ ha;rw[h0,Lib.decDigits_one (by decide)]at this;have h9:a.data.toList.length=1:=by rw[← this];rfl
    rw[aF]at h9;omega
   have HNE:=hid hne;have hlp:=hid (show(ae (aI a.data.toList-aI b.data.toList)).length≤100000 from Nat.le_trans (aP (Nat.sub_le _ _)) hda.o);have HAB:=hid hab;clear ha hb htab hab hne;go_enter func236,ntmps236
   go_wp2_with fail
   refine(bT a HA.o Hla.o _).mono ?_;rintro e w' ⟨rfl,rfl⟩;go_wp2_with fail
   refine(bT b HB.o Hlb.o _).mono ?_;rintro e w' ⟨rfl,rfl⟩;go_wp2_with fail
   refine(hcmp.o _).mono ?_;rintro e w' ⟨rfl,rfl⟩;generalize cmpN (aI a.data.toList) (aI b.data.toList)=cc at *;go_wp2_with fail
   refine(gD a hra.o hla _).mono ?_;rintro e w1 ⟨v1,rfl,ho1,hb1⟩;have uu:=hid hb1;have HO1:=hid ho1;clear hb1 ho1;go_wp2_with fail
   refine(gD b hrb.o hlb _).mono ?_;rintro e w2 ⟨v2,rfl,ho2,hb2⟩;have u6:=hbt uu hb2;have hm:=hid (sW v1 v2 _ _ HAB.o HNE.o hda.o w2 (HO1.o.rd.below hb2) ho2.rd);clear hb2 ho2;go_wp2_with fail
   refine hm.o.mono ?_;rintro e w3 ⟨v3,rfl,ho3,hb3⟩;have w9:=hbt u6 hb3;have hwr:=hid (iX v3 _ hlp.o w3 ho3.rd (HT.o.on w9.o));clear hb3 ho3;go_wp2_with fail
   refine hwr.o.mono ?_;rintro e w4 ⟨rfl,hb4⟩;have wm:=hbt w9 hb4;clear hb4;go_wp2;go_ret2
   exact⟨rfl,wm.o⟩
theorem z2Y {s:ByteArray}(h:aI s.data.toList≠0):s.data.toList≠[48]:=by
 intro h2;apply h;rw[h2];rfl
theorem jy {b:ByteArray}(h:aI b.data.toList≠0):(b.toList==[48])=false:=by
 rw[beq_eq_false_iff_ne,toList_data];exact z2Y h
set_option maxHeartbeats 1000000 in
theorem ve (a b:ByteArray)(ha:vld a.data.toList=true)(hb:vld b.data.toList=true)(h0:aI b.data.toList≠0)(hab:aI b.data.toList≤aI a.data.toList)(hla:a.size≤19)(w:World)(htab:Tb w) :
 CR 235 #[.string a,.string b] w (.tuple #[St (Lib.decDigits (aI a.data.toList / aI b.data.toList)),St (Lib.decDigits (aI a.data.toList%aI b.data.toList)),.int .i64 0]):=by
 have hlen:b.size≤a.size:=by
  rcases Nat.lt_or_ge a.size b.size with h|h
  · have:=eO ha hb (by rw[aF,aF];exact h)
    omega
  · exact h
 obtain ⟨HA,HB,HT⟩:=ak ha hb htab;have Hla:=hid (show a.size≤maxLen by unfold maxLen;omega);have Hlb:=hid (show b.size≤maxLen by unfold maxLen;omega);have hne:=jy h0;have hcmp:=hid (gW a b ha hb);have hc0:¬ cmpN (aI a.data.toList) (aI b.data.toList)<0:=by unfold cmpN;split<;>(try split)<;>omega
 have H1:=hid (z4C ha hla);have H0:=hid (show 0<aI b.data.toList by omega);have HAB:=hid hab;clear ha hb htab h0 hab;go_enter func235,ntmps235
 go_wp2_with fail
 refine(bT a HA.o Hla.o _).mono ?_;rintro e w' ⟨rfl,rfl⟩;go_wp2_with fail
 refine(bT b HB.o Hlb.o _).mono ?_;rintro e w' ⟨rfl,rfl⟩;go_wp2_with fail
 refine(hcmp.o _).mono ?_;rintro e w' ⟨rfl,rfl⟩;generalize cmpN (aI a.data.toList) (aI b.data.toList)=cc at *;go_wp2_with fail
 refine(ig a HA.o (by omega) _).mono ?_;rintro e w1 ⟨rfl,hb1⟩;have uu:=hid hb1;clear hb1;go_wp2_with fail
 refine(ig b HB.o (by omega) _).mono ?_;rintro e w2 ⟨rfl,hb2⟩;have u6:=hbt uu hb2;clear hb2;generalize hxx:aI a.data.toList=x at *;generalize hyy:aI b.data.toList=y at *;have HXX:=hid hxx;have HYY:=hid hyy;clear hxx hyy;have hT2d:=hid (show Tb w2.drew from HT.o.on (Below.drew u6.o));have hx64:x / y<18446744073709551616:=Nat.lt_of_le_of_lt (Nat.div_le_self x y) (by have:=H1.o;omega);have hm64:x%y<18446744073709551616:=Nat.lt_of_le_of_lt (Nat.mod_le x y) (by have:=H1.o;omega);have HQ:=hid (show ∀ W,Tb W→CR 224 #[.int .u64 ((x:Int) / (y:Int))] W (.string ⟨(Lib.decDigits (x / y)).toArray⟩) from fun W hW=>nD (x / y) hx64 W hW);have HM:=hid (show ∀ W,Tb W→CR 224 #[.int .u64 ((x:Int)%(y:Int))] W (.string ⟨(Lib.decDigits (x%y)).toArray⟩) from fun W hW=>nD (x%y) hm64 W hW);have y1:(1:Int)≤(y:Int):=by have:=H0.o;omega
 have x0:(0:Int)≤(x:Int):=by omega
 have yz:((y:Int)==0)=false:=beq_eq_false_iff_ne.2 (by omega);have htm:(x:Int).tmod (y:Int)=(x:Int)%(y:Int):=rfl;have hwq:IntKind.u64.wrap ((x:Int) / (y:Int))=(x:Int) / (y:Int):=IntWalk.u64_in _ ⟨Int.natCast_nonneg (x / y),by have:=(Int.ofNat_lt.2 hx64);omega⟩;clear hx64 hm64 hc0 hcmp;go_wp2_with fail
 go_region_with (first|(go_at_call 224;(with_reducible refine(HQ.o _ hT2d.o).mono ?_);rintro e w3 ⟨rfl,hb3⟩)|(go_at_call 224;(with_reducible refine(HM.o _ (hT2d.o.on hb3)).mono ?_);rintro e w4 ⟨rfl,hb4⟩))
 all_goals
  go_wp2;go_ret3
  refine⟨?_,((Below.drew u6.o).trans (Below.mono hb3 u6.o.size)).trans (Below.mono hb4 (Nat.le_trans u6.o.size hb3.size))⟩;rw[HXX.o,HYY.o];rfl
theorem xu (a b:ByteArray)(ha:vld a.data.toList=true)(hb:vld b.data.toList=true)(hab:aI a.data.toList<aI b.data.toList)(hla:a.size≤maxLen)(hlb:b.size≤maxLen)(w:World) :
 Calls Tryz.prog 235 #[.string a,.string b] w fun e w'=>e=.returned (.tuple #[St [48],.string a,.int .i64 0])∧w=w':=by
 have HA:=hid ha;have HB:=hid hb;have hne:=jy (b:=b) (by omega);have hcmp:=gW a b ha hb;rw[fV hab]at hcmp;have HC:=hid hcmp;clear ha hb hab hcmp;go_enter func235,ntmps235
 go_wp2_with fail
 refine(bT a HA.o hla _).mono ?_;rintro e w' ⟨rfl,rfl⟩;go_wp2_with fail
 refine(bT b HB.o hlb _).mono ?_;rintro e w' ⟨rfl,rfl⟩;go_wp2_with fail
 refine(HC.o _).mono ?_;rintro e w' ⟨rfl,rfl⟩;go_wp2;go_ret3
 exact⟨rfl,rfl⟩
theorem digs_one:ae 1=[1]:=by
 have h:=lh (w:=1) (n:=0) oK (Or.inl (by decide));rw[aQ]at h;simpa using h
end Go.Proofs.YtoaeaiiabelhkaaGreatDoor
open Go.Lib (hid)
namespace Go.Proofs.YtoaeaiiabelhkaaGreatDoor
open Go.RowKit Go.Gb
def Stp (a b c d:Nat) (o:Bool):Value:=.agg #[.int .u64 (a:Int),.int .u64 (b:Int),.int .u64 (c:Int),.int .u64 (d:Int),.bool o]
theorem qH (a b c d q:Nat)(o:Bool)(h1:a+q*c≤2000000000000000000)(h2:b+q*d≤2000000000000000000)(w:World) :
 CR 201 #[Stp a b c d o,.int .u64 (q:Int)] w (Stp c d (a+q*c) (b+q*d) (!o)):=by
 obtain⟨p1,hp1⟩:∃ p:Nat,p=q*c:=⟨_,rfl⟩;obtain⟨p2,hp2⟩:∃ p:Nat,p=q*d:=⟨_,rfl⟩;rw[← hp1]at h1 ⊢;rw[← hp2]at h2 ⊢;have e1:(q:Int)*(c:Int)=(p1:Int):=by rw[hp1];exact(Int.natCast_mul _ _).symm
 have e2:(q:Int)*(d:Int)=(p2:Int):=by rw[hp2];exact(Int.natCast_mul _ _).symm
 have w1:IntKind.u64.wrap (p1:Int)=(p1:Int):=IntWalk.u64_in _ (by omega);have w2:IntKind.u64.wrap (p2:Int)=(p2:Int):=IntWalk.u64_in _ (by omega);have w3:IntKind.u64.wrap ((a:Int)+(p1:Int))=(a:Int)+(p1:Int):=IntWalk.u64_in _ (by omega);have w4:IntKind.u64.wrap ((b:Int)+(p2:Int))=(b:Int)+(p2:Int):=IntWalk.u64_in _ (by omega);have HP1:=hid hp1;have HP2:=hid hp2;clear hp1 hp2 h1 h2;unfold Stp
 go_enter func201,ntmps201
 go_wp2;refine bodyPost_ret (v:=Stp c d (a+p1) (b+p2) (!o)) (by simp[results,results201,go_sem,Stp]) rfl ⟨rfl,?_⟩;repeat (first|exact Below.refl _ _|refine Below.setCell ?_ (by simp) _|refine Below.alloc ?_ (by simp) _|refine Below.drew ?_)
def Sb (w:World) (g a b c d:Nat) (o:Bool):Prop:=w.heap[g]? = some (.cells #[.int .u64 (a:Int),.int .u64 (b:Int),.int .u64 (c:Int),.int .u64 (d:Int),.bool o] 187 (0,0))
theorem bI {w w':World}{g a b c d:Nat}{o:Bool}(h:Sb w g a b c d o)(hb:Below w.heap.size w w'):Sb w' g a b c d o:=by
 unfold Sb at *
 rw[hb.block g (Array.getElem?_eq_some_iff.1 h).1];exact h
theorem bF {w:World}{g a b c d:Nat}{o:Bool}(h:Sb w g a b c d o):w.cell? ⟨g,0,none⟩=some (.int .u64 (a:Int))∧w.cell? ⟨g,1,none⟩=some (.int .u64 (b:Int))∧w.cell? ⟨g,2,none⟩=some (.int .u64 (c:Int))∧w.cell? ⟨g,3,none⟩=some (.int .u64 (d:Int))∧w.cell? ⟨g,4,none⟩=some (.bool o):=by
 unfold Sb at h
 refine⟨?_,?_,?_,?_,?_⟩<;>simp[World.cell?,h]
theorem bi {w:World}{g a b c d:Nat}{o:Bool}(h:Sb w g a b c d o)(i:Nat):w.frozen? ⟨g,i,none⟩=false:=by
 unfold Sb at h
 simp only[World.frozen?,h];simp
def set5 (w:World) (g a b c d:Nat) (o:Bool):World:=((((w.setCell ⟨g,0,none⟩ (.int .u64 (a:Int))).setCell ⟨g,1,none⟩ (.int .u64 (b:Int))).setCell ⟨g,2,none⟩ (.int .u64 (c:Int))).setCell ⟨g,3,none⟩ (.int .u64 (d:Int))).setCell ⟨g,4,none⟩ (.bool o)
theorem fU {w:World}{g a b c d:Nat}{o:Bool}(h:Sb w g a b c d o)(a' b' c' d':Nat)(o':Bool):Sb (set5 w g a' b' c' d' o') g a' b' c' d' o':=by
 unfold Sb at *
 unfold set5
 simp only[World.setCell,Array.getElem?_modify,h];simp
theorem dN {w:World}{k g a b c d:Nat}{o:Bool}(h:Sb w k a b c d o)(hk:k≠g)(a' b' c' d':Nat)(o':Bool):Sb (set5 w g a' b' c' d' o') k a b c d o:=by
 unfold Sb at *
 unfold set5
 rw[Below.heap_setCell _ _ _ _ hk,Below.heap_setCell _ _ _ _ hk,Below.heap_setCell _ _ _ _ hk,Below.heap_setCell _ _ _ _ hk,Below.heap_setCell _ _ _ _ hk];exact h
theorem dB {B:Nat}{w0 w:World}(h:Below B w0 w){g:Nat}(hB:B≤g)(a b c d:Nat)(o:Bool):Below B w0 (set5 w g a b c d o) :=
 ((((h.setCell (p:=⟨g,0,none⟩) hB _).setCell (p:=⟨g,1,none⟩) hB _).setCell (p:=⟨g,2,none⟩) hB _).setCell (p:=⟨g,3,none⟩) hB _).setCell (p:=⟨g,4,none⟩) hB _
theorem uO (x0 y0:Nat)(hx:x0<1000000000000000000)(hy:y0<1000000000000000000)(w:World) :
 Calls Tryz.prog 174 #[.int .u64 (x0:Int),.int .u64 (y0:Int)] w fun e w'=>∃ (a b c d:Nat) (o:Bool),e=.returned (.tuple #[.int .u64 ((Nat.gcd x0 y0:Nat):Int),Stp a b c d o])∧iI x0 y0 (Nat.gcd x0 y0) 0 a b c d o∧Below w.heap.size w w':=by
 have hs0:Sb ((w.alloc (.cells #[.int .u64 0,.int .u64 0,.int .u64 0,.int .u64 0,.bool false] 187)).alloc (.cells #[.int .u64 1,.int .u64 0,.int .u64 0,.int .u64 1,.bool false] 187)) (w.heap.size+1) 1 0 0 1 false:=by
  unfold Sb
  have:=heap_alloc_new (w.alloc (.cells #[.int .u64 0,.int .u64 0,.int .u64 0,.int .u64 0,.bool false] 187)) (.cells #[.int .u64 1,.int .u64 0,.int .u64 0,.int .u64 1,.bool false] 187);rw[World.size_alloc]at this;exact this
 have hr0:Sb ((w.alloc (.cells #[.int .u64 0,.int .u64 0,.int .u64 0,.int .u64 0,.bool false] 187)).alloc (.cells #[.int .u64 1,.int .u64 0,.int .u64 0,.int .u64 1,.bool false] 187)) w.heap.size 0 0 0 0 false:=by
  unfold Sb
  rw[Below.heap_alloc _ _ _ (by simp),heap_alloc_new];rfl
 have HS0:=hid hs0;have HR0:=hid hr0;have HN0:=hid (((Below.refl w.heap.size w).alloc (Nat.le_refl _) (.cells #[.int .u64 0,.int .u64 0,.int .u64 0,.int .u64 0,.bool false] 187)).alloc (by simp) (.cells #[.int .u64 1,.int .u64 0,.int .u64 0,.int .u64 1,.bool false] 187));have HX:=hid hx;have HY:=hid hy;clear hs0 hr0 hx hy;go_enter func174,ntmps174
 go_wp2;go_loopw [0,1] (fun xx yy wr=>∃ (x y a b c d:Nat) (o:Bool),xx=.int .u64 (x:Int)∧yy=.int .u64 (y:Int)∧Hid (iI x0 y0 x y a b c d o)∧Hid (x≤1000000000000000000∧y≤1000000000000000000)∧Hid (Sb wr (w.heap.size+1) a b c d o)∧Hid (Sb wr w.heap.size 0 0 0 0 false)∧Hid (Below w.heap.size w wr)) (fun _ yy _=>(intOf yy).toNat)
 case atStart=>exact⟨x0,y0,1,0,0,1,false,rfl,rfl,iI.start x0 y0,⟨Nat.le_of_lt HX.o,Nat.le_of_lt HY.o⟩,HS0,HR0,HN0⟩
 case round =>
  obtain⟨x,y,a,b,c,d,o,rfl,rfl,hE,hxy,hS,hR,hn⟩:=hrel;clear HS0 HR0 HN0;by_cases hy0:0<y
  · have hbd:=hE.o.step.bound hy0
    have h1:a+x / y*c≤2000000000000000000:=by have:=HY.o;omega
    have h2:b+x / y*d≤2000000000000000000:=by have:=HX.o;omega
    obtain⟨a',ha'⟩:∃ a':Nat,a'=a+x / y*c:=⟨_,rfl⟩;obtain⟨b',hb'⟩:∃ b':Nat,b'=b+x / y*d:=⟨_,rfl⟩;have hW:=hid (show CQ 201 #[.agg #[.int .u64 (a:Int),.int .u64 (b:Int),.int .u64 (c:Int),.int .u64 (d:Int),.bool o],.int .u64 ((x:Int) / (y:Int))] (.agg #[.int .u64 (c:Int),.int .u64 (d:Int),.int .u64 (a':Int),.int .u64 (b':Int),.bool (!o)]) from fun W=>by rw[ha',hb'];exact qH a b c d (x / y) o h1 h2 W);obtain ⟨HA',HB'⟩:=aB ha' hb';clear ha' hb';obtain⟨c0,c1,c2,c3,c4⟩:=bF hS.o;have hS':=hid (show Sb wr.drew (w.heap.size+1) a b c d o from hS.o);have y1:(1:Int)≤(y:Int):=by omega
    have yz:((y:Int)==0)=false:=beq_eq_false_iff_ne.2 (by omega);have hq64:x / y<18446744073709551616:=Nat.lt_of_le_of_lt (Nat.div_le_self x y) (by have:=hxy.o.1;omega);have hwq:IntKind.u64.wrap ((x:Int) / (y:Int))=(x:Int) / (y:Int):=IntWalk.u64_in _ ⟨Int.natCast_nonneg (x / y),by have:=(Int.ofNat_lt.2 hq64);omega⟩;have htm:(x:Int).tmod (y:Int)=(x:Int)%(y:Int):=rfl;clear hq64 h1 h2 hbd;go_wp2;go_region_with (go_at_call 201;go_must (refine(hW.o _).mono ?_;rintro e w1 ⟨rfl,hb1⟩;obtain⟨s0,s1,s2,s3,s4⟩:=bF (bI hS'.o hb1);have f0:=bi (bI hS'.o hb1) 0;have f1:=bi (bI hS'.o hb1) 1;have f2:=bi (bI hS'.o hb1) 2;have f3:=bi (bI hS'.o hb1) 3;have f4:=bi (bI hS'.o hb1) 4))
    all_goals
        have hS1:=bI hS'.o hb1;have hR1:=bI (show Sb wr.drew w.heap.size 0 0 0 0 false from hR.o) hb1;have hS2:=hid (fU hS1 c d a' b' (!o));have hR2:=hid (dN (g:=w.heap.size+1) hR1 (by omega) c d a' b' (!o));have hn2:=hid (dB (hn.o.drew.trans (hb1.mono (show w.heap.size≤wr.drew.heap.size from hn.o.size))) (g:=w.heap.size+1) (by omega) c d a' b' (!o));have hE2:=hE.o.step;rw[← HA'.o,← HB'.o]at hE2;obtain ⟨HE2,hlt,hmd⟩:=ak hE2 (Nat.mod_lt x hy0) (Nat.mod_le x y);clear hS1 hR1 hE2 s0 s1 s2 s3 s4 f0 f1 f2 f3 f4 hb1 hS' hW c0 c1 c2 c3 c4 hwq;change Exit.then _ _ Exit.normal _ (set5 w1 (w.heap.size+1) c d a' b' (!o));generalize set5 w1 (w.heap.size+1) c d a' b' (!o)=w2 at *;have hxm:(x:Int)%(y:Int)=((x%y:Nat):Int):=rfl;have hmw:IntKind.u64.wrap (((x%y:Nat):Int))=((x%y:Nat):Int):=IntWalk.u64_in _ (by have:=hxy.o.1;have:=hmd.o;omega);obtain⟨r,hr⟩:∃ r:Nat,r=x%y:=⟨_,rfl⟩;rw[← hr]at hxm hmw;have HRr:=hid hr;clear hr;go_wp2;go_quiet (fail)
        have hn3:=hid (below_drewN' hn2.o nq);have hS3:=hid (show Sb (w2.drewN nq) (w.heap.size+1) c d a' b' (!o) from hS2.o);have hR3:=hid (show Sb (w2.drewN nq) w.heap.size 0 0 0 0 false from hR2.o);go_wp2;go_roundw
        case rel=>exact⟨y,r,c,d,a',b',!o,rfl,rfl,by rw[HRr.o];exact HE2,⟨hxy.o.2,by have:=hxy.o.2;have:=hlt.o;rw[HRr.o];omega⟩,hS3,hR3,hn3⟩
        case measure=>simp[intOf];have:=hlt.o;have:=HRr.o;omega
  · have hy1:y=0:=by omega
    subst hy1;have hg:=hE.o.2.2.1;rw[Nat.gcd_zero_right]at hg;have HG:=hid hg;clear hg;have f0:=bi hR.o 0;have f1:=bi hR.o 1;have f2:=bi hR.o 2;have f3:=bi hR.o 3;have f4:=bi hR.o 4;obtain⟨r0,r1,r2,r3,r4⟩:=bF hR.o;obtain⟨c0,c1,c2,c3,c4⟩:=bF hS.o;go_wp2;go_region
    have hS2:=hid (show Sb (set5 wr w.heap.size a b c d o).drew w.heap.size a b c d o from fU hR.o a b c d o);have hn2:=hid (Below.drew (dB hn.o (g:=w.heap.size) (Nat.le_refl _) a b c d o));clear f0 f1 f2 f3 f4 r0 r1 r2 r3 r4 c0 c1 c2 c3 c4;change Exit.then _ _ Exit.normal _ (set5 wr w.heap.size a b c d o).drew;generalize (set5 wr w.heap.size a b c d o).drew=w2 at *;obtain⟨c0,c1,c2,c3,c4⟩:=bF hS2.o;go_wp2;refine bodyPost_ret (v:=.tuple #[.int .u64 (x:Int),Stp a b c d o]) (by simp[results,results174,go_sem,Stp,c0,c1,c2,c3,c4]) rfl ⟨a,b,c,d,o,by rw[HG.o],?_,hn2.o⟩;have:=hE.o;rw[HG.o]at this;exact this
open Go.Lib (hid)
theorem iJ (v:Value)(xs:List Nat)(i:Nat)(hi:i≤1000000)(hl:xs.length≤1000000)(w:World)(h:Rd .u64 w v xs) :
 Calls Tryz.prog 202 #[v,.int .i64 (i:Int)] w fun e w'=>e=.returned (.int .u64 ((xs.getD i 0:Nat):Int))∧w=w':=by
 by_cases hlt:i<xs.length
 · obtain⟨b,o,c,rfl,_,_,_,r⟩:=dM h (by omega)
   have hc:=r i hlt;clear r h;generalize xs.getD i 0=x at *;go_enter func202,ntmps202
   go_wp2;go_ret
   exact⟨rfl,rfl⟩
 · obtain⟨a,c,rfl⟩:=aW h
   have e:xs.getD i 0=0:=by simp[List.getD,List.getElem?_eq_none (show xs.length≤i by omega)]
   rw[e];clear h e;go_enter func202,ntmps202
   go_wp2;go_ret
   exact⟨rfl,rfl⟩
theorem z2w (v:Value)(xs:List Nat)(hl:xs.length≤1000000)(w:World)(h:Rd .u64 w v xs) :
 Calls Tryz.prog 202 #[v,.int .i64 0] w fun e w'=>e=.returned (.int .u64 ((xs.getD 0 0:Nat):Int))∧w=w':=iJ v xs 0 (by omega) hl w h
theorem z2v (v:Value)(xs:List Nat)(hl:xs.length≤1000000)(w:World)(h:Rd .u64 w v xs) :
 Calls Tryz.prog 202 #[v,.int .i64 1] w fun e w'=>e=.returned (.int .u64 ((xs.getD 1 0:Nat):Int))∧w=w':=iJ v xs 1 (by omega) hl w h
theorem z3x {n:Nat}(h:(ae n).length≤2):(ae n).getD 1 0*BB+(ae n).getD 0 0=n∧(ae n).getD 0 0<BB∧(ae n).getD 1 0<BB:=by
 have hv:=az n;have hl:=aR n;refine⟨?_,getD_lt hl 0,getD_lt hl 1⟩
 match hd:ae n,h with
 | [],_=>rw[hd]at hv;simp[ai]at hv;simp;exact hv
 | [x],_=>rw[hd]at hv;simp[ai]at hv;simp;exact hv
 | [x,y],_=>rw[hd]at hv;simp[ai]at hv;simp;rw[Nat.mul_comm y];omega
theorem yu {n:Nat}(h:(ae n).length≤2):n<1000000000000000000:=by
 have h1:=dG n;have h2:BB^(ae n).length≤BB^2:=Nat.pow_le_pow_right bN h;have h3:BB^2=1000000000000000000:=by rw[aG]
 omega
theorem tK (v:Value)(n:Nat)(hn:(ae n).length≤2)(w:World)(h:Rd .u64 w v (ae n)) :
 Calls Tryz.prog 175 #[v] w fun e w'=>e=.returned (.int .u64 (n:Int))∧w=w':=by
 have h0:=hid (z2w v (ae n) (by omega) w h);have h1:=hid (z2v v (ae n) (by omega) w h);obtain⟨g1,g2,g3⟩:=z3x hn;rw[aG]at g1 g2 g3;have G1:=hid g1;clear g1 h hn;generalize (ae n).getD 0 0=x at *;generalize (ae n).getD 1 0=y at *;have k1:(x:Int)≤999999999:=by omega
 have k2:(y:Int)≤999999999:=by omega
 clear g2 g3;go_enter func175,ntmps175
 go_wp2_with fail
 refine h1.o.mono ?_;rintro e w' ⟨rfl,rfl⟩;go_wp2_with fail
 refine h0.o.mono ?_;rintro e w' ⟨rfl,rfl⟩;go_wp2;go_ret
 exact⟨dK (by have:=G1.o;omega),rfl⟩
theorem nV (a:Option Addr)(n c:Nat)(hn:n≤1000000)(w:World) :
 Calls Tryz.prog 173 #[.slice a n c] w fun e w'=>e=.returned (.bool (decide (n≤2)))∧w=w':=by
 by_cases h:n≤2
 · go_enter func173,ntmps173
   go_wp2;go_ret
   exact⟨dA (by simp[h];try omega),rfl⟩
 · go_enter func173,ntmps173
   go_wp2;go_ret
   exact⟨dA (by simp[h];try omega),rfl⟩
theorem kw (v:Value)(xs:List Nat)(hn:xs.length≤2)(w:World)(h:Rd .u64 w v xs) :
 Calls Tryz.prog 173 #[v] w fun e w'=>e=.returned (.bool true)∧w=w':=by
 obtain⟨a,c,rfl⟩:=aW h;exact(nV a _ c (by omega) w).mono fun e w' ⟨h1,h2⟩=>⟨by rw[h1];simp[hn],h2⟩
theorem q9 (v:Value)(xs:List Nat)(hn:2<xs.length)(hl:xs.length≤1000000)(w:World)(h:Rd .u64 w v xs) :
 Calls Tryz.prog 173 #[v] w fun e w'=>e=.returned (.bool false)∧w=w':=by
 obtain⟨a,c,rfl⟩:=aW h;exact(nV a _ c (by omega) w).mono fun e w' ⟨h1,h2⟩=>⟨by rw[h1];simp;omega,h2⟩
theorem z3b (n:Nat)(hn:n<1000000000000000000)(w:World) :
 Calls Tryz.prog 176 #[.int .u64 (n:Int)] w fun e w'=>∃ v,e=.returned v∧Gb.Own .u64 112 w.heap.size w' v (ae n)∧Below w.heap.size w w':=by
 have hB:=aG;have hlo:n%1000000000<BB:=by rw[hB];exact Nat.mod_lt _ (by decide)
 have hhi:n / 1000000000<BB:=by rw[hB];omega
 have hblk:Blk (w.alloc (.cells #[.int .u64 ((n:Int)%1000000000),.int .u64 ((n:Int) / 1000000000)] 112)) w.heap.size [n%1000000000,n / 1000000000]:=Blk.alloc _ _ (by simp[cls]);have hown:=hblk.own (B:=w.heap.size) (Nat.le_refl _) (by unfold maxLen;simp) 2 (by simp)
 have htr:=fC 112 w.heap.size _ [n%1000000000,n / 1000000000] (by
  intro x hx;simp only[List.mem_cons,List.not_mem_nil,or_false]at hx;rcases hx with rfl|rfl
  · exact hlo
  · exact hhi) (w.alloc (.cells #[.int .u64 ((n:Int)%1000000000),.int .u64 ((n:Int) / 1000000000)] 112)) hown
 have hv:ai [n%1000000000,n / 1000000000]=n:=by simp only[ai];rw[hB];omega
 rw[hv]at htr;have HTR:=hid htr;clear htr hown hblk hlo hhi hv hB;have k1:(n:Int)<1000000000000000000:=by omega
 clear hn;go_enter func176,ntmps176
 go_wp2_with fail
 refine HTR.o.mono ?_;rintro e w1 ⟨v,rfl,ho,rfl⟩;go_wp2;go_ret
 exact⟨v,rfl,ho,(Below.refl _ _).alloc (Nat.le_refl _) _⟩
theorem vg (v1 v2:Value)(a b:Nat)(ha:(ae a).length≤2)(hb:(ae b).length≤2)(w:World)(h1:Rd .u64 w v1 (ae a))(h2:Rd .u64 w v2 (ae b)) :
 Calls Tryz.prog 152 #[v1,v2] w fun e w'=>∃ v,e=.returned v∧Gb.Own .u64 112 w.heap.size w' v (ae (Nat.gcd a b))∧Below w.heap.size w w':=by
 have s1:=hid (kw v1 _ ha w h1);have s2:=hid (kw v2 _ hb w h2);have t1:=hid (tK v1 a ha w h1);have t2:=hid (tK v2 b hb w h2)
 have hg:Nat.gcd a b<1000000000000000000:=by
  rcases Nat.eq_zero_or_pos a with h|h
  · rw[h,Nat.gcd_zero_left];exact yu hb
  · exact Nat.lt_of_le_of_lt (Nat.gcd_le_left b h) (yu ha)
 have hs:=hid (uO a b (yu ha) (yu hb));have hlo:=hid (z3b (Nat.gcd a b) hg);clear h1 h2 ha hb hg;generalize Nat.gcd a b=g at *;go_enter func152,ntmps152
 go_wp2_with fail
 refine s1.o.mono ?_;rintro e w' ⟨rfl,rfl⟩;go_wp2_with fail
 refine s2.o.mono ?_;rintro e w' ⟨rfl,rfl⟩;go_wp2_with fail
 refine t1.o.mono ?_;rintro e w' ⟨rfl,rfl⟩;go_wp2_with fail
 refine t2.o.mono ?_;rintro e w' ⟨rfl,rfl⟩;go_wp2_with fail
 refine(hs.o _).mono ?_;rintro e w1 ⟨sa,sb,sc,sd,so,rfl,_,hb1⟩;have uu:=hid hb1;clear hb1 s1 s2 t1 t2;unfold Stp
 go_wp2_with fail
 refine(hlo.o _).mono ?_;rintro e w2 ⟨v,rfl,ho,hb2⟩;have u6:=hid ((uu.o.alloc uu.o.size (.cells #[.int .u64 (sa:Int),.int .u64 (sb:Int),.int .u64 (sc:Int),.int .u64 (sd:Int),.bool so] 187)).trans (hb2.mono (by have:=uu.o.size;simp;omega)));have HO:=hid (ho.mono (show w.heap.size≤_ by have:=uu.o.size;simp;omega));clear ho hb2;go_wp2;go_ret
 exact⟨v,rfl,HO.o,u6.o⟩
def z4c (a b:Nat):Prop:=∀ (v1 v2:Value) (w:World),Rd .u64 w v1 (ae a)→Rd .u64 w v2 (ae b) →
    Calls Tryz.prog 152 #[v1,v2] w fun e w'=>∃ v,e=.returned v∧Gb.Own .u64 112 w.heap.size w' v (ae (Nat.gcd a b))∧Below w.heap.size w w'
end Go.Proofs.YtoaeaiiabelhkaaGreatDoor
open Go.Lib (hid)
namespace Go.Proofs.YtoaeaiiabelhkaaGreatDoor
open Go.RowKit Go.Gb
def lenV:Value→Nat | .slice _ n _=>n|_=>0
def lD (xs ys:List Nat):Prop:=∃ k,ys=xs++List.replicate k 0
theorem lD.start (xs:List Nat):lD xs xs:=⟨0,by simp⟩
theorem lD.step {xs ys:List Nat}(h:lD xs ys):lD xs (ys++[0]):=by
 obtain⟨k,rfl⟩:=h;exact⟨k+1,by rw[List.append_assoc,iN]⟩
theorem lD.fin {xs ys:List Nat}(h:lD xs ys):ys=xs++List.replicate (ys.length-xs.length) 0:=by
 obtain⟨k,rfl⟩:=h;rw[List.length_append,List.length_replicate,Nat.add_sub_cancel_left]
theorem z16 (B:Nat)(v:Value)(xs:List Nat)(n:Nat)(hn:n≤100000)(hx:xs.length≤n)(w:World)(h:Gb.Own .u64 112 B w v xs)(hB:B≤w.heap.size) :
 Calls Tryz.prog 246 #[v,.int .i64 (n:Int)] w fun e w'=>∃ u,e=.returned u∧Gb.Own .u64 112 B w' u (xs++List.replicate (n-xs.length) 0)∧fT w v u∧Kp (At v) w w':=by
 obtain⟨i0,hi,hz0,hz1,hz2⟩:=info_parts Tryz.info112;obtain⟨a0,c0,rfl⟩:=aW h.rd;have HO:=hid h;have HB:=hid hB;clear h hB;go_enter func246,ntmps246
 go_wp2;go_loopw [0] (fun x wr=>∃ (a:Option Addr) (c:Nat) (ys:List Nat),x=.slice a ys.length c∧ys.length≤n∧Hid (lD xs ys)∧Hid (Gb.Own .u64 112 B wr (.slice a ys.length c) ys)∧Hid (fT w (.slice a0 xs.length c0) (.slice a ys.length c))∧Hid (Kp (At (.slice a0 xs.length c0)) w wr)) (fun x _=>n-lenV x)
 case atStart=>exact⟨a0,c0,xs,rfl,hx,lD.start xs,HO.o,fT.refl _ _,Kp.refl _ _⟩
 case round =>
  obtain⟨a,c,ys,rfl,hl,hp,ho,hno,hk⟩:=hrel;by_cases hlt:ys.length<n
  · have hsz:=hk.o.size
    have hBw:=HB.o;go_wp2_with (at_builtin;refine ji _ rfl _ _ 167 rfl B 112 i0 (.int .u64 0) underlying167 hi hz0 hz1 hz2 rfl _ ys.length (cls .u64 ys) rfl (World.ownsRow.alloc ho.o _) ⟨wr.heap.size,0,none⟩ 1 (.int .u64 0) rfl (cells_one _ _ _ 0 _ rfl) rfl (by omega) (by simp;omega) ?_)
    intro v' w1 hown' hgrow hnew
    have ho1:Gb.Own .u64 112 B w1 v' (ys++[0]):=by
        unfold Gb.Own
        rw[cB,List.length_append];exact hown'
    obtain⟨a',c',rfl⟩:=aW ho1.rd;have HO1:=hid ho1;have HN1:=hid (hno.o.trans hnew (by simp;omega))
    have HK1:=hid ((hk.o.alloc (.cells #[.int .u64 0] 112)).grown hgrow (fun g hg hlt=>by
        rcases hno.o g hg with h1|h1
        · exact h1
        · omega))
    clear ho1 hown' hgrow hnew;go_wp2;go_roundw
    case rel=>exact⟨a',c',ys++[0],rfl,by simp;omega,hp.o.step,HO1,HN1,HK1⟩
    case measure=>simp[lenV];omega
  · have hfin:=hp.o.fin
    rw[show ys.length-xs.length=n-xs.length by omega]at hfin;have HF:=hid hfin;clear hfin;go_wp2;go_ret
    refine⟨_,rfl,?_,hno.o,hk.o⟩;rw[← HF.o];exact ho.o
theorem z0z (s:Int)(h0:0≤s+3000000000000000000)(h1:s+3000000000000000000<6000000000000000000)(w:World) :
 Calls Tryz.prog 247 #[.int .i64 s] w fun e w'=>e=.returned (.tuple #[.int .u64 ((s+3000000000000000000)%1000000000),.int .i64 ((s+3000000000000000000) / 1000000000-3000000000)])∧w=w':=by
 obtain⟨t,ht⟩:∃ t,t=s+3000000000000000000:=⟨_,rfl⟩;have e1:IntKind.i64.wrap (s+3000000000000000000)=t:=by rw[ht];exact IntWalk.i64_in _ (by omega)
 rw[← ht]at h0 h1 ⊢;have HT:=hid ht;clear ht;go_enter func247,ntmps247
 go_wp2;go_ret2
 exact⟨rfl,rfl⟩
theorem jH (B:Nat)(v:Value)(xs:List Nat)(k:Nat)(hk3:k≤3000000000)(hx:xs.length≤100000)(w:World)(h:Gb.Own .u64 112 B w v xs)(hB:B≤w.heap.size) :
 Calls Tryz.prog 248 #[v,.int .i64 (k:Int)] w fun e w'=>∃ u,e=.returned u∧Gb.Own .u64 112 B w' u (xs++ae k)∧fT w v u∧Kp (At v) w w':=by
 obtain⟨i0,hi,hz0,hz1,hz2⟩:=info_parts Tryz.info112;obtain⟨a0,c0,rfl⟩:=aW h.rd;have hdl:(ae k).length≤2:=bL (by rw[aG];omega);obtain ⟨HD,HO,HB⟩:=ak hdl h hB;clear h hB hdl;go_enter func248,ntmps248
 go_wp2;go_loopw [0,1] (fun x kk wr=>∃ (a:Option Addr) (c m:Nat) (ys:List Nat),x=.slice a ys.length c∧kk=.int .i64 (m:Int)∧m≤3000000000∧Hid (ys++ae m=xs++ae k)∧Hid (Gb.Own .u64 112 B wr (.slice a ys.length c) ys)∧Hid (fT w (.slice a0 xs.length c0) (.slice a ys.length c))∧Hid (Kp (At (.slice a0 xs.length c0)) w wr)) (fun _ kk _=>(intOf kk).toNat)
 case atStart=>exact⟨a0,c0,k,xs,rfl,rfl,hk3,rfl,HO.o,fT.refl _ _,Kp.refl _ _⟩
 case round =>
  obtain⟨a,c,m,ys,rfl,rfl,hm,he,ho,hno,hk⟩:=hrel
  have hyl:ys.length≤100002:=by
   have e:=congrArg List.length he.o;rw[List.length_append,List.length_append]at e;have:=HD.o;omega
  by_cases hlt:0<m
  · have hsz:=hk.o.size
    have hBw:=HB.o;have hdm:=bP (n:=m) (by omega);rw[aG]at hdm;have HM:=hid hdm;obtain⟨r,hr⟩:∃ r:Nat,r=m%1000000000:=⟨_,rfl⟩;obtain⟨q,hq⟩:∃ q:Nat,q=m / 1000000000:=⟨_,rfl⟩;have e1:(m:Int)%1000000000=(r:Int):=by omega
    have e2:(m:Int) / 1000000000=(q:Int):=by omega
    obtain ⟨HR,HQ⟩:=aB hr hq;have hq3:q≤3000000000:=by omega
    have hqm:=hid (show q<m by omega);have hr9:r<1000000000:=by omega
    clear hdm hr hq;go_wp2_with (at_builtin;refine ji _ rfl _ _ 167 rfl B 112 i0 (.int .u64 0) underlying167 hi hz0 hz1 hz2 rfl _ ys.length (cls .u64 ys) rfl (World.ownsRow.alloc ho.o _) ⟨wr.heap.size,0,none⟩ 1 (.int .u64 (r:Int)) rfl (cells_one _ _ _ 0 _ rfl) rfl (by omega) (by simp;omega) ?_)
    intro v' w1 hown' hgrow hnew
    have ho1:Gb.Own .u64 112 B w1 v' (ys++[r]):=by
        unfold Gb.Own
        rw[cB,List.length_append];exact hown'
    obtain⟨a',c',rfl⟩:=aW ho1.rd;have HO1:=hid ho1;have HN1:=hid (hno.o.trans hnew (by simp;omega))
    have HK1:=hid ((hk.o.alloc (.cells #[.int .u64 (r:Int)] 112)).grown hgrow (fun g hg hlt=>by
        rcases hno.o g hg with h1|h1
        · exact h1
        · omega))
    clear ho1 hown' hgrow hnew;go_wp2;go_roundw
    case rel=>exact⟨a',c',q,ys++[r],rfl,rfl,hq3,by rw[List.append_assoc,List.singleton_append,HR.o,HQ.o,← HM.o];exact he.o,HO1,HN1,HK1⟩
    case measure=>simp[intOf];have:=hqm.o;omega
  · obtain rfl:m=0:=by omega
    have hfin:=he.o;rw[aQ,List.append_nil]at hfin;have HF:=hid hfin;clear hfin;go_wp2;go_ret
    refine⟨_,rfl,?_,hno.o,hk.o⟩;rw[← HF.o];exact ho.o
theorem z0n {xs:List Nat}(hB:∀ x∈xs,x<BB):xs.take (ae (ai xs)).length=ae (ai xs)∧(ae (ai xs)).length≤xs.length:=by
 have hlen:(ae (ai xs)).length≤xs.length:=bL (dS xs hB);refine⟨?_,hlen⟩
 have key:∀ (n:Nat),Zs xs n→ae (ai xs)=xs.take (ae (ai xs)).length:=by
  intro n
  induction n with
  | zero=>intro hz;have e:=gV hz.1 hB hz.2 (Or.inl rfl);have:=hz.fin hB (Or.inl rfl);rw[← this];exact e
  | succ n ih =>
    intro hz;by_cases h0:xs.getD n 0=0
    · exact ih (by have:=hz.step (by simpa using h0);simpa using this)
    · have e:=gV hz.1 hB hz.2 (Or.inr (by simpa using h0))
      have:=hz.fin hB (Or.inr (by simpa using h0));rw[← this];exact e
 exact(key _ (Zs.start xs)).symm
theorem z2f (B:Nat)(v:Value)(xs:List Nat)(hB:∀ x∈xs,x<BB)(w:World)(h:Gb.Own .u64 112 B w v xs) :
 Calls Tryz.prog 203 #[v] w fun e w'=>∃ v',e=.returned v'∧Gb.Own .u64 112 B w v' (ae (ai xs))∧(∀ g,At v' g→At v g)∧w=w':=by
 have hd:=z0n hB;have h0:=h;obtain⟨h1,h2⟩:=h;rcases h2 with⟨rfl,h3⟩|⟨g,cap,cur,rfl,hg,hh,hn,hc,hs,ht⟩
 · obtain rfl:xs=[]:=List.length_eq_zero_iff.1 h3
   have hz:ae (ai [])=[]:=by unfold ai;exact aQ
   rw[hz];clear hd hB h0 hz;go_enter func203,ntmps203
   go_wp2;refine wp_loop_rounds 1 ?_;rw[rounds_succ];go_wp2;go_ret
   exact⟨_,rfl,Gb.Own.nil _ _ _ _,fun _ h=>h,rfl⟩
 · have hrd:∀ i,i<xs.length→w.cell? ⟨g,0+i,none⟩=some (.int .u64 ((xs.getD i 0:Nat):Int)):=by
    rcases h0.rd with⟨hv,_⟩|⟨b,o,c,hv,_,_,_,h5⟩
    · injection hv with hv;cases hv
    · injection hv with e1 e2 e3
      injection e1 with e1
      injection e1 with e4 e5 e6
      subst e4 e5 e3;exact h5
   refine(oI g 0 cap xs hB hn hc w hrd).mono fun e w' ⟨he,hw⟩=>⟨_,he,?_,fun k hk=>(by rw[fG]at hk ⊢;exact hk),hw⟩;have:=h0.take (ae (ai xs)).length hd.2;rwa [hd.1]at this
