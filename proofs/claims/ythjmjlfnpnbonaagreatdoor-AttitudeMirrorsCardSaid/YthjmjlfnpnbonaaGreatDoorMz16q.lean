/- Texts of this proof, one behind the other. -/
import Derived.Test.YthjmjlfnpnbonaaGreatDoorRhf
import Derived.Deep.LoopGhost
import Derived.Deep.RegionHeld3
namespace Go.Proofs.YthjmjlfnpnbonaaGreatDoor
open Go.RowKit Go.Gb
theorem ROver_any (v1 v2:Value)(a b:Nat)(hb:b≠0)(hl:(digs a).length≤50000)(w:World)(h1:Rd .u32 w v1 (digs a))(h2:Rd .u32 w v2 (digs b)) :
 Calls Tryz.prog 72 #[v1,v2] w fun e w'=>∃ q r,e=.returned (.tuple #[q,r])∧Rd .u32 w' q (digs (a / b))∧Rd .u32 w' r (digs (a%b))∧Below w.heap.size w w':=by
 rcases Nat.lt_or_ge a b with hab|hab
 · exact ROver_less v1 v2 a b hab (by omega) w h1 h2
 · have hp:0<(digs b).length:=List.length_pos_iff.2 (by rw[digs_pos hb];simp)
   rcases Nat.lt_or_ge (digs b).length 2 with h|h
   · exact ROver_word v1 v2 a b hab (by omega) (by omega) w h1 h2
   · exact ROver_long v1 v2 a b h hab hl w h1 h2
end Go.Proofs.YthjmjlfnpnbonaaGreatDoor
set_option maxRecDepth 100000
set_option maxHeartbeats 20000000
open Go.Lib (hid)
namespace Go.Proofs.YthjmjlfnpnbonaaGreatDoor
open Go.RowKit Go.Gb
theorem two_words {n:Nat}(h:(digs n).length≤2):(n:Int)≤999999999999999999:=by
 have h1:=lt_pow_digs n
 have h2:BB^(digs n).length≤BB^2:=Nat.pow_le_pow_right BB_pos h
 have h3:BB^2=1000000000000000000:=by rw[BB_eq]
 omega
theorem RCommon_any (v1 v2:Value)(a b:Nat)(hla:(digs a).length≤50000)(hlb:(digs b).length≤50000)(w:World)(h1:Rd .u32 w v1 (digs a))(h2:Rd .u32 w v2 (digs b)) :
 Calls Tryz.prog 51 #[v1,v2] w fun e w'=>∃ v,e=.returned v∧Rd .u32 w' v (digs (Nat.gcd a b))∧Below w.heap.size w w':=by
 obtain⟨g,hg⟩:∃ g,g=Nat.gcd a b:=⟨_,rfl⟩
 rw[← hg]
 have HG:=hid hg.symm
 have HL:=hid (And.intro hla hlb)
 have H1:=hid h1
 have H2:=hid h2
 clear h1 h2 hg hla hlb
 go_enter Tryz.func51,Tryz.ntmps51
 go_wp2
 go_loopg [0,1] b (fun k s0 s1 wr=>∃ x,Hid (Nat.gcd x k=g)∧Hid ((digs x).length≤50000∧(digs k).length≤50000)∧Hid (Rd .u32 wr s0 (digs x))∧Hid (Rd .u32 wr s1 (digs k))∧Hid (Below w.heap.size w wr))
 case atStart=>exact⟨a,HG,HL,H1,H2,Below.refl _ _⟩
 case round =>
  obtain⟨x,hg,hl,hr0,hr1,hn⟩:=hrel
  obtain⟨p0,c0,rfl⟩:=rd_form hr0.out
  obtain⟨p1,c1,rfl⟩:=rd_form hr1.out
  by_cases hk0:gk=0
  · have e0:(digs gk).length=0:=by rw[hk0,digs_zero];rfl
    have hgx:=hg.out
    rw[hk0,Nat.gcd_zero_right]at hgx
    have HR:=hid (show Rd .u32 wr (.slice p0 (digs x).length c0) (digs g) by rw[← hgx];exact hr0.out)
    rw[e0]
    clear hk0 e0 hgx hg hl hr0 hr1
    generalize (digs x).length=lx at *
    go_wp2
    go_ret
    exact⟨_,rfl,HR.out,hn.out⟩
  · have hpk:0<(digs gk).length:=List.length_pos_iff.2 (by rw[digs_pos hk0];simp)
    have hl':=hl.out
    by_cases hs:(digs x).length≤2∧(digs gk).length≤2
    · have hx18:=two_words hs.1
      have hk18:=two_words hs.2
      have HW1:=hid (Rword _ x hs.1 wr hr0.out)
      have HW2:=hid (Rword _ gk hs.2 wr hr1.out)
      obtain⟨lx,hlx⟩:∃ l,l=(digs x).length:=⟨_,rfl⟩
      obtain⟨lk,hlk⟩:∃ l,l=(digs gk).length:=⟨_,rfl⟩
      rw[← hlx]at HW1 hs ⊢
      rw[← hlk]at HW2 hs hpk ⊢
      obtain⟨hs1,hs2⟩:=hs
      have j1:(lx:Int)≤2:=by omega
      have j2:(lk:Int)≤2:=by omega
      clear hl' hlx hlk hs1 hs2 hr0 hr1 hl hk0
      go_wp2_with fail
      refine HW1.out.mono ?_
      rintro e w' ⟨rfl,rfl⟩
      go_wp2_with fail
      refine HW2.out.mono ?_
      rintro e w' ⟨rfl,rfl⟩
      go_wp2
      obtain⟨wo,rfl⟩:∃ wo:World,wo=wr:=⟨_,rfl⟩
      obtain⟨k0,hk0⟩:∃ k,k=gk:=⟨_,rfl⟩
      rw[← hk0]at hg hk18 HW2 ⊢
      go_loopg [5,6] k0 (fun k s5 s6 wr=>∃ u,Hid (Nat.gcd u k=g)∧s5=.int .u64 (u:Int)∧s6=.int .u64 (k:Int)∧(u:Int)≤999999999999999999∧(k:Int)≤999999999999999999∧Hid (Below w.heap.size w wr))
      case atStart=>exact⟨x,hg,rfl,rfl,hx18,hk18,hn⟩
      case round =>
       clear hg hn hx18 hk18 HW1 HW2
       obtain⟨u,hg,rfl,rfl,hu18,hk18,hn⟩:=hrel
       by_cases hz:gk=0
       · subst hz
         have hgx:=hg.out
         rw[Nat.gcd_zero_right]at hgx
         have HWD:=hid (Rwide u (by omega) wr)
         have HGX:=hid hgx
         clear hg hk18 hgx
         go_wp2_with fail
         refine HWD.out.mono ?_
         rintro e w1 ⟨v,rfl,ho,hb⟩
         have HB:=hid (hn.out.trans (hb.mono hn.out.size))
         have ho2:=ho.rd
         rw[HGX.out]at ho2
         have HO:=hid ho2
         clear ho hb ho2
         go_wp2
         go_ret
         exact⟨v,rfl,HO.out,HB.out⟩
       · have hnz:((gk:Int) != 0)=true:=bne_iff_ne.2 (by omega)
         have hnz2:((gk:Int)==0)=false:=beq_eq_false_iff_ne.2 (by omega)
         have hlt:u%gk<gk:=Nat.mod_lt _ (by omega)
         have hmod:(u:Int)%(gk:Int)=((u%gk:Nat):Int):=rfl
         have HG2:=hid (show Nat.gcd gk (u%gk)=g by rw[Nat.gcd_comm,← Nat.gcd_rec,Nat.gcd_comm];exact hg.out)
         obtain⟨m,hm⟩:∃ m,m=u%gk:=⟨_,rfl⟩
         rw[← hm]at hmod hlt HG2
         have hk1:(1:Int)≤(gk:Int):=by omega
         have Hlt:=hid hlt
         clear hm hg hlt hz
         go_wp2
         go_quiet (fail)
         have HN2:=hid (below_drewN' hn.out nq)
         clear hn
         generalize wr.drewN nq=w2 at *
         go_wp2
         go_roundg m
         case measure=>exact Hlt.out
         case rel=>exact⟨gk,HG2,rfl,val_int1 hmod,hk18,by have:=Hlt.out;omega,HN2⟩
    · have HO:=hid (ROver_any _ _ x gk hk0 hl'.1 wr hr0.out hr1.out)
      have hlt:x%gk<gk:=Nat.mod_lt _ (by omega)
      have HG2:=hid (show Nat.gcd gk (x%gk)=g by rw[Nat.gcd_comm,← Nat.gcd_rec,Nat.gcd_comm];exact hg.out)
      have HL2:=hid (show(digs gk).length≤50000∧(digs (x%gk)).length≤50000 from⟨hl'.2,Nat.le_trans (digs_length_mono (Nat.mod_le _ _)) hl'.1⟩)
      obtain⟨m,hm⟩:∃ m,m=x%gk:=⟨_,rfl⟩
      rw[← hm]at hlt HG2 HL2 HO
      obtain⟨lx,hlx⟩:∃ l,l=(digs x).length:=⟨_,rfl⟩
      obtain⟨lk,hlk⟩:∃ l,l=(digs gk).length:=⟨_,rfl⟩
      rw[← hlx]at HO hs hl' hr0 ⊢
      rw[← hlk]at HO hs hl' hpk hr1 ⊢
      have j3:(lx:Int)≤50000:=by omega
      have j4:(lk:Int)≤50000:=by omega
      have Hlt:=hid hlt
      by_cases hx2:lx≤2
      all_goals first
       | (have j1:(lx:Int)≤2:=by omega
          have j2:decide ((lk:Int)≤2)=false:=decide_eq_false (by omega))
       | (have j1:decide ((lx:Int)≤2)=false:=decide_eq_false (by omega)
          have j2:¬ (lx:Int)≤2:=by omega)
      all_goals
       clear hm hlx hlk hs hl' hg hlt hk0 hl
       go_wp2_with fail
       refine HO.out.mono ?_
       rintro e w2 ⟨q,r,rfl,_,hr,hb⟩
       have HR1:=hid (hr1.out.below hb)
       have HN2:=hid (hn.out.trans (hb.mono hn.out.size))
       have HR2:=hid hr
       clear hr hb
       go_wp2
       go_roundg m
       case measure=>exact Hlt.out
       case rel=>exact⟨gk,HG2,HL2,HR1,HR2,HN2⟩
open Go.RowKit Go.Gb
def AddOk (a b:Nat):Prop:=∀ (v1 v2:Value) (w:World),Rd .u64 w v1 (digs a)→Rd .u64 w v2 (digs b) →
    Calls Tryz.prog 243 #[v1,v2] w fun e w'=>∃ v,e=.returned v∧Own .u64 110 w.heap.size w' v (digs (a+b))∧Below w.heap.size w w'
open Go.RowKit Go.Gb
theorem digs_add_len {a b K:Nat}(ha:(digs a).length≤K)(hb:(digs b).length≤K):(digs (a+b)).length≤K+1:=by
 refine digs_length_le ?_
 have h1:=lt_pow_digs a
 have h2:=lt_pow_digs b
 have h3:BB^(digs a).length≤BB^K:=Nat.pow_le_pow_right BB_pos ha
 have h4:BB^(digs b).length≤BB^K:=Nat.pow_le_pow_right BB_pos hb
 have h6:BB^(K+1)=BB^K*BB:=Nat.pow_succ BB K
 have h7:BB^K*2≤BB^K*BB:=Nat.mul_le_mul_left _ BB_one
 generalize BB^K=P at *
 generalize BB^(K+1)=Q at *
 omega
set_option maxHeartbeats 2000000 in
theorem Add_long (a b:ByteArray)(ha:vld a.data.toList=true)(hb:vld b.data.toList=true)(hs:19≤a.size∨19≤b.size)(hla:a.size≤100000)(hlb:b.size≤100000)(hok:AddOk (dval a.data.toList) (dval b.data.toList))(w:World)(htab:Tb w) :
 CR 229 #[.string a,.string b] w (.tuple #[St (Lib.decDigits (dval a.data.toList+dval b.data.toList)),.int .i64 0]):=by
 have HA:=hid ha
 have HB:=hid hb
 have HT:=hid htab
 have HOK:=hid hok
 have Hla:=hid (show a.size≤maxLen by unfold maxLen;omega)
 have Hlb:=hid (show b.size≤maxLen by unfold maxLen;omega)
 have hra:=hid (all_of_vld ha)
 have hrb:=hid (all_of_vld hb)
 have hlp:(digs (dval a.data.toList+dval b.data.toList)).length≤100000:=by
  have g1:=digs_len_str (all_of_vld ha) 20000 (by rw[size_list];omega)
  have g2:=digs_len_str (all_of_vld hb) 20000 (by rw[size_list];omega)
  have g3:=digs_add_len g1 g2
  omega
 have HLP:=hid hlp
 have hmx:¬ max (a.size:Int) (b.size:Int)<19:=by omega
 clear ha hb htab hok hlp hs
 go_enter Tryz.func229,Tryz.ntmps229
 go_wp2_with fail
 refine(Valid_yes a HA.out Hla.out _).mono ?_
 rintro e w' ⟨rfl,rfl⟩
 go_wp2_with fail
 refine(Valid_yes b HB.out Hlb.out _).mono ?_
 rintro e w' ⟨rfl,rfl⟩
 go_wp2_with fail
 refine(Read_any a hra.out hla _).mono ?_
 rintro e w1 ⟨v1,rfl,ho1,hb1⟩
 have HB1:=hid hb1
 have HO1:=hid ho1
 clear hb1 ho1
 go_wp2_with fail
 refine(Read_any b hrb.out hlb _).mono ?_
 rintro e w2 ⟨v2,rfl,ho2,hb2⟩
 have HB2:=hbt HB1 hb2
 have hm:=hid (HOK.out v1 v2 w2 (HO1.out.rd.below hb2) ho2.rd)
 clear hb2 ho2
 go_wp2_with fail
 refine hm.out.mono ?_
 rintro e w3 ⟨v3,rfl,ho3,hb3⟩
 have HB3:=hbt HB2 hb3
 have hwr:=hid (Write_any v3 _ HLP.out w3 ho3.rd (HT.out.on HB3.out))
 clear hb3 ho3
 go_wp2_with fail
 refine hwr.out.mono ?_
 rintro e w4 ⟨rfl,hb4⟩
 have HB4:=hbt HB3 hb4
 clear hb4
 go_wp2
 go_ret2
 exact⟨rfl,HB4.out⟩
open Go.RowKit Go.Gb
set_option maxHeartbeats 2000000 in
theorem Divide_long (v1 v2:Value)(a b:Nat)(hab:¬ a<b)(hlb:2≤(digs b).length)(hl:(digs a).length≤90000)(w:World)(h1:Rd .u64 w v1 (digs a))(h2:Rd .u64 w v2 (digs b)) :
 Calls Tryz.prog 218 #[v1,v2] w fun e w'=>∃ q r,e=.returned (.tuple #[q,r])∧Own .u64 110 w.heap.size w' q (digs (a / b))∧Own .u64 110 w.heap.size w' r (digs (a%b))∧Below w.heap.size w w':=by
 have hless:=Less_any v1 v2 a b (by omega) w h1 h2
 rw[show decide (a<b)=false by simpa using hab]at hless
 have hlong:=fun(w':World) (hb:Below w.heap.size w w')=>divLong_any v1 v2 a b hlb (by omega) hl w' (h1.below hb) (h2.below hb)
 obtain⟨b2,o2,c2,rfl,_,_,k2,r2⟩:=rd_pos h2 (by omega)
 generalize hn:(digs b).length=n at *
 have HL:=hid hless
 have HD:=hid hlong
 have Hn:=hid hn
 have hne:((n:Int)==1)=false:=beq_eq_false_iff_ne.2 (by omega)
 clear hless h1 h2 hab hl hlong r2 hn
 go_enter Tryz.func218,Tryz.ntmps218
 go_wp2_with fail
 refine HL.out.mono ?_
 rintro e w1 ⟨rfl,hb1⟩
 have HDw:=hid (HD.out w1 hb1)
 have HB1:=hid hb1
 clear hb1
 go_wp2_with fail
 refine HDw.out.mono ?_
 rintro e w2 ⟨q,r,rfl,hq,hr,hb2⟩
 have HQ:=hid (hq.mono HB1.out.size)
 have HR:=hid (hr.mono HB1.out.size)
 have HB2:=hbt HB1 hb2
 clear hq hr hb2
 go_wp2
 go_ret2
 exact⟨q,r,rfl,HQ.out,HR.out,HB2.out⟩
theorem Divide_any (v1 v2:Value)(a b:Nat)(hb:b≠0)(hl:(digs a).length≤90000)(w:World)(h1:Rd .u64 w v1 (digs a))(h2:Rd .u64 w v2 (digs b)) :
 Calls Tryz.prog 218 #[v1,v2] w fun e w'=>∃ q r,e=.returned (.tuple #[q,r])∧Own .u64 110 w.heap.size w' q (digs (a / b))∧Own .u64 110 w.heap.size w' r (digs (a%b))∧Below w.heap.size w w':=by
 by_cases hab:a<b
 · exact(Divide_less v1 v2 a b hab (by omega) w h1 h2).mono fun e w' ⟨r,he,hr,hb⟩=>⟨_,r,he,by rw[Nat.div_eq_of_lt hab,digs_zero];exact Own.nil _ _ _ _,by rw[Nat.mod_eq_of_lt hab];exact hr,hb⟩
 · rcases Nat.lt_or_ge (digs b).length 2 with h|h
   · exact Divide_word v1 v2 a b hab (by have:0<(digs b).length:=by{ rw[digs_pos hb];simp };omega) (by omega) w h1 h2
   · exact Divide_long v1 v2 a b hab h hl w h1 h2
open Go.RowKit Go.Gb
set_option maxHeartbeats 2000000 in
theorem DivMod_long (a b:ByteArray)(ha:vld a.data.toList=true)(hb:vld b.data.toList=true)(h0:dval b.data.toList≠0)(hab:dval b.data.toList≤dval a.data.toList)(hla:19<a.size)(hla2:a.size≤90000)(w:World)(htab:Tb w) :
 CR 227 #[.string a,.string b] w (.tuple #[St (Lib.decDigits (dval a.data.toList / dval b.data.toList)),St (Lib.decDigits (dval a.data.toList%dval b.data.toList)),.int .i64 0]):=by
 have hlen:b.size≤a.size:=by
  rcases Nat.lt_or_ge a.size b.size with h|h
  · have:=dval_lt_of_len ha hb (by rw[size_list,size_list];exact h)
    omega
  · exact h
 have HA:=hid ha
 have HB:=hid hb
 have HT:=hid htab
 have Hla:=hid (show a.size≤maxLen by unfold maxLen;omega)
 have Hlb:=hid (show b.size≤maxLen by unfold maxLen;omega)
 have hra:=hid (all_of_vld ha)
 have hrb:=hid (all_of_vld hb)
 have hne:=neq_zero_str (b:=b) h0
 have hcmp:=compare_num a b ha hb
 have hcc:cmpN (dval a.data.toList) (dval b.data.toList)=0∨cmpN (dval a.data.toList) (dval b.data.toList)=1:=by
  rcases Nat.lt_or_ge (dval b.data.toList) (dval a.data.toList) with h|h
  · exact Or.inr (cmpN_gt h)
  · exact Or.inl (by rw[show dval a.data.toList=dval b.data.toList by omega];exact cmpN_eq _)
 have hda:=digs_len_str (all_of_vld ha) 90000 (by rw[size_list];omega)
 have HDA:=hid hda
 have HQ:=hid (Nat.le_trans (digs_length_mono (Nat.div_le_self (dval a.data.toList) (dval b.data.toList))) hda)
 have HM:=hid (Nat.le_trans (digs_length_mono (Nat.mod_le (dval a.data.toList) (dval b.data.toList))) hda)
 have H0:=hid h0
 have HC:=hid hcmp
 have Ha9:=hid (show a.size≤100000 by omega)
 have Hb9:=hid (show b.size≤100000 by omega)
 have hl1:¬ (a.size:Int)≤19:=by omega
 have hl2:decide ((a.size:Int)≤19)=false:=decide_eq_false hl1
 have hc0:(cmpN (dval a.data.toList) (dval b.data.toList)<0)=False:=by
  rcases hcc with h|h<;>rw[h]<;>simp
 clear ha hb htab h0 hab hla hla2 hlen hcmp hda hcc
 go_enter Tryz.func227,Tryz.ntmps227
 go_wp2_with fail
 refine(Valid_yes a HA.out Hla.out _).mono ?_
 rintro e w' ⟨rfl,rfl⟩
 go_wp2_with fail
 refine(Valid_yes b HB.out Hlb.out _).mono ?_
 rintro e w' ⟨rfl,rfl⟩
 go_wp2_with fail
 refine(HC.out _).mono ?_
 rintro e w' ⟨rfl,rfl⟩
 generalize cmpN (dval a.data.toList) (dval b.data.toList)=cc at *
 go_wp2_with fail
 refine(Read_any a hra.out Ha9.out _).mono ?_
 rintro e w1 ⟨v1,rfl,ho1,hb1⟩
 have HB1:=hid hb1
 have HO1:=hid ho1
 clear hb1 ho1
 go_wp2_with fail
 refine(Read_any b hrb.out Hb9.out _).mono ?_
 rintro e w2 ⟨v2,rfl,ho2,hb2⟩
 have HB2:=hbt HB1 hb2
 have hm:=hid (Divide_any v1 v2 _ _ H0.out HDA.out w2 (HO1.out.rd.below hb2) ho2.rd)
 clear hb2 ho2
 go_wp2_with fail
 refine hm.out.mono ?_
 rintro e w3 ⟨q,r,rfl,hq,hr,hb3⟩
 have HB3:=hbt HB2 hb3
 have hwq:=hid (Write_any q _ (by have:=HQ.out;omega) w3 hq.rd (HT.out.on HB3.out))
 have HR:=hid hr
 clear hb3 hq hr
 go_wp2_with fail
 refine hwq.out.mono ?_
 rintro e w4 ⟨rfl,hb4⟩
 have hwr:=hid (Write_any r _ (by have:=HM.out;omega) w4 (HR.out.rd.below hb4) (HT.out.on (HB3.out.trans (hb4.mono HB3.out.size))))
 have HB4:=hbt HB3 hb4
 clear hb4
 go_wp2_with fail
 refine hwr.out.mono ?_
 rintro e w5 ⟨rfl,hb5⟩
 have HB5:=hbt HB4 hb5
 clear hb5
 go_wp2
 go_ret3
 exact⟨rfl,HB5.out⟩
theorem DivMod_yes (a b:ByteArray)(ha:vld a.data.toList=true)(hb:vld b.data.toList=true)(h0:dval b.data.toList≠0)(hla:a.size≤90000)(hlb:b.size≤90000)(w:World)(htab:Tb w) :
 CR 227 #[.string a,.string b] w (.tuple #[St (Lib.decDigits (dval a.data.toList / dval b.data.toList)),St (Lib.decDigits (dval a.data.toList%dval b.data.toList)),.int .i64 0]):=by
 rcases Nat.lt_or_ge (dval a.data.toList) (dval b.data.toList) with hab|hab
 · refine(DivMod_less a b ha hb hab (by unfold maxLen;omega) (by unfold maxLen;omega) w).mono fun e w' ⟨he,hw⟩=>⟨?_,hw▸Below.refl _ _⟩
   have hs:Value.string a=St a.data.toList:=by cases a;simp[St]
   have h0:Lib.decDigits 0=[48]:=dec_dval [48] (by decide)
   rw[he,Nat.div_eq_of_lt hab,Nat.mod_eq_of_lt hab,dec_dval _ ha,h0,hs]
 · rcases Nat.lt_or_ge 19 a.size with hs|hs
   · exact DivMod_long a b ha hb h0 hab hs hla w htab
   · exact DivMod_short a b ha hb h0 hab hs w htab
end Go.Proofs.YthjmjlfnpnbonaaGreatDoor
set_option maxRecDepth 100000
set_option maxHeartbeats 20000000
open Go.Lib (hid)
namespace Go.Proofs.YthjmjlfnpnbonaaGreatDoor
open Go.RowKit Go.Gb
theorem arith_add {a b c:Nat}{os:List Nat}(hs:SumInv (digs a) (digs b) os (digs a).length c)(hl:(digs b).length≤(digs a).length):wval (os++[c])=a+b∧∀ x∈os++[c],x<BB:=by
 obtain⟨h1,h2⟩:=hs.done hl
 rw[wval_digs,wval_digs]at h1
 exact⟨h1,h2⟩
theorem join_add (v1 v2:Value)(a b:Nat)(ha:a≠0)(hlb:(digs b).length≤(digs a).length)(hl:(digs a).length≤10000)(w:World)(h1:Rd .u64 w v1 (digs a))(h2:Rd .u64 w v2 (digs b)) :
 Calls Tryz.prog 249 #[v1,v2,.func (.func 251) #[.pointer (some ⟨w.heap.size,0,none⟩)] #[]] (w.alloc (.cells #[.int .u64 0] 270)) fun e w' =>
  ∃ v,e=.returned v∧∃ (os:List Nat) (c:Nat),wval (os++[c])=a+b∧(∀ x∈os++[c],x<BB)∧os.length=(digs a).length∧Own .u64 110 (w.heap.size+1) w' v os∧Car w' w.heap.size c∧Below w.heap.size w w':=by
 obtain⟨b1,o1,c1,rfl,_,_,k1,r1⟩:=rd_pos h1 (List.length_pos_iff.2 (by rw[digs_pos ha];simp))
 have hb0:=(Below.refl w.heap.size w).alloc (Nat.le_refl _) (.cells #[.int .u64 0] 270)
 have hcx:∀ i,i<(digs a).length→(w.alloc (.cells #[.int .u64 0] 270)).cell? ⟨b1,o1+i,none⟩=some (.int .u64 (((digs a).getD i 0:Nat):Int)):=fun i hi=>(hb0.cell (p:=⟨b1,o1+i,none⟩) k1).trans (r1 i hi)
 have hz:(w.alloc (.cells #[.int .u64 0] 270)).heap.size=w.heap.size+1:=by simp
 have fin:∀ (e:Ending) (w':World),(e=.returned (.slice (some ⟨w.heap.size+1,0,none⟩) (digs a).length ((digs a).length+1))∧∃ (os:List Nat) (c:Nat),SumInv (digs a) (digs b) os (digs a).length c∧Blk w' (w.heap.size+1) (os++[0])∧Car w' w.heap.size c∧(w.alloc (.cells #[.int .u64 0] 270)).grownBy w' (some w.heap.size)) →
  ∃ v,e=.returned v∧∃ (os:List Nat) (c:Nat),wval (os++[c])=a+b∧(∀ x∈os++[c],x<BB)∧os.length=(digs a).length∧Own .u64 110 (w.heap.size+1) w' v os∧Car w' w.heap.size c∧Below w.heap.size w w':=by
  rintro e w' ⟨he,os,c,hs,hblk,hc,hg⟩
  obtain⟨g1,g2⟩:=arith_add hs hlb
  have hlen:=hs.1
  have hown:=hblk.own (B:=w.heap.size+1) (by omega) (by unfold maxLen;simp;omega) os.length (by simp)
  rw[List.take_left,hlen,List.length_append,List.length_singleton,hlen]at hown
  exact⟨_,he,os,c,g1,g2,hlen,hown,hc,hb0.grown hg (by simp) (fun k hk=>by cases hk;exact Nat.le_refl _)⟩
 rcases h2 with⟨rfl,h2⟩|⟨b2,o2,c2,rfl,_,_,k2,r2⟩
 · have:=join_plus_nil SumInv w.heap.size b1 o1 c1 none 0 (digs a) (digs b) (by omega) (w.alloc (.cells #[.int .u64 0] 270)) (plus_ok _ _ _ (digs_lt a) (digs_lt b)) (SumInv.start _ _) (fun os i c h=>h.1) (car_alloc w) (by rw[hz];omega) (by omega) hcx (by rw[h2];simp)
   rw[hz,h2]at this
   rw[h2]at fin
   exact this.mono fin
 · have:=join_plus_some SumInv w.heap.size b1 o1 c1 b2 o2 c2 (digs a) (digs b) (by omega) (w.alloc (.cells #[.int .u64 0] 270)) (plus_ok _ _ _ (digs_lt a) (digs_lt b)) (SumInv.start _ _) (fun os i c h=>h.1) (car_alloc w) (by rw[hz];omega) (by omega) hcx (by rw[hz];omega) (by omega) (fun i hi=>(hb0.cell (p:=⟨b2,o2+i,none⟩) k2).trans (r2 i hi))
   rw[hz]at this
   exact this.mono fin
theorem add_any (a b:Nat)(hab:a≠0∨b≠0)(hla:(digs a).length≤10000)(hlb:(digs b).length≤10000):AddOk a b:=by
 intro v1 v2 w h1 h2
 obtain⟨i0,hi,hz0,hz1,hz2⟩:=info_parts Tryz.info110
 by_cases hlt:(digs a).length<(digs b).length
 · have hb:b≠0:=by intro h;rw[h,digs_zero]at hlt;simp at hlt
   have HJ:=hid (join_add v2 v1 b a hb (by omega) hlb w h2 h1)
   rw[Nat.add_comm b a]at HJ
   clear hb
   obtain⟨a1,c1,rfl⟩:=rd_form h1
   obtain⟨a2,c2,rfl⟩:=rd_form h2
   have Hl:=hid hlb
   clear h1 h2 hab hla hlb
   generalize a+b=s at *
   generalize (digs a).length=m at *
   generalize (digs b).length=n at *
   go_enter Tryz.func243,Tryz.ntmps243
   go_wp2_with fail
   refine HJ.out.mono ?_
   rintro e w1 ⟨v,rfl,os,c,g1,g2,g3,hown,hcar,hbw⟩
   have hc1:=cell_of_one hcar
   have HG1:=hid g1
   have HG2:=hid g2
   have HG3:=hid g3
   have HOW:=hid (show w1.ownsRow (w.heap.size+1) 110 1 v os.length (cls .u64 os) from hown)
   have HBW:=hid hbw
   have HSZ:=hid hcar.lt
   clear g1 g2 g3 hown hcar hbw
   go_wp2_with (at_builtin;refine wpList_append_own _ rfl _ _ 174 rfl (w.heap.size+1) 110 i0 (.int .u64 0) 1 8 Tryz.underlying174 hi hz0 hz1 hz2 rfl (by decide) _ _ _ rfl (HOW.out.alloc _) ⟨w1.heap.size,0,none⟩ 1 1 [.int .u64 (c:Int)] rfl rfl (cells_one _ _ _) (by intro u hu;simp at hu;subst hu;rfl) (by have:=HG3.out;have:=Hl.out;unfold maxLen;omega) (by have:=HG3.out;have:=Hl.out;omega) (by have:=HSZ.out;simp;omega) ?_)
   intro v' w2 hown' hgrow _
   have hox:Own .u64 110 w.heap.size w2 v' (os++[c]):=(show Own .u64 110 (w.heap.size+1) w2 v' (os++[c]) by unfold Own;rw[cls_append,List.length_append];exact hown').mono (Nat.le_succ _)
   have htr:=Trim_own 110 w.heap.size v' (os++[c]) HG2.out w2 hox
   rw[HG1.out]at htr
   have HTR:=hid htr
   have HN:=hid ((HBW.out.alloc HBW.out.size (.cells #[.int .u64 (c:Int)] 110)).grown hgrow (by have:=HSZ.out;simp;omega) (fun k hk=>Nat.le_of_succ_le (HOW.out.lt k hk).1))
   clear hox htr hown' hgrow
   go_wp2_with fail
   refine HTR.out.mono ?_
   rintro e w3 ⟨v3,rfl,hown,rfl⟩
   go_wp2
   go_ret
   exact⟨v3,rfl,hown,HN.out⟩
 · have ha:a≠0:=by
    intro h
    rw[h,digs_zero]at hlt
    rcases hab with h2|h2
    · exact h2 h
    · have:=List.length_pos_iff.2 (show digs b≠[]by rw[digs_pos h2];simp)
      simp at hlt;rw[hlt]at this;simp at this
   have HJ:=hid (join_add v1 v2 a b ha (by omega) hla w h1 h2)
   clear ha
   obtain⟨a1,c1,rfl⟩:=rd_form h1
   obtain⟨a2,c2,rfl⟩:=rd_form h2
   have Hl:=hid hla
   clear h1 h2 hab hla hlb
   generalize a+b=s at *
   generalize (digs a).length=m at *
   generalize (digs b).length=n at *
   go_enter Tryz.func243,Tryz.ntmps243
   go_wp2_with fail
   refine HJ.out.mono ?_
   rintro e w1 ⟨v,rfl,os,c,g1,g2,g3,hown,hcar,hbw⟩
   have hc1:=cell_of_one hcar
   have HG1:=hid g1
   have HG2:=hid g2
   have HG3:=hid g3
   have HOW:=hid (show w1.ownsRow (w.heap.size+1) 110 1 v os.length (cls .u64 os) from hown)
   have HBW:=hid hbw
   have HSZ:=hid hcar.lt
   clear g1 g2 g3 hown hcar hbw
   go_wp2_with (at_builtin;refine wpList_append_own _ rfl _ _ 174 rfl (w.heap.size+1) 110 i0 (.int .u64 0) 1 8 Tryz.underlying174 hi hz0 hz1 hz2 rfl (by decide) _ _ _ rfl (HOW.out.alloc _) ⟨w1.heap.size,0,none⟩ 1 1 [.int .u64 (c:Int)] rfl rfl (cells_one _ _ _) (by intro u hu;simp at hu;subst hu;rfl) (by have:=HG3.out;have:=Hl.out;unfold maxLen;omega) (by have:=HG3.out;have:=Hl.out;omega) (by have:=HSZ.out;simp;omega) ?_)
   intro v' w2 hown' hgrow _
   have hox:Own .u64 110 w.heap.size w2 v' (os++[c]):=(show Own .u64 110 (w.heap.size+1) w2 v' (os++[c]) by unfold Own;rw[cls_append,List.length_append];exact hown').mono (Nat.le_succ _)
   have htr:=Trim_own 110 w.heap.size v' (os++[c]) HG2.out w2 hox
   rw[HG1.out]at htr
   have HTR:=hid htr
   have HN:=hid ((HBW.out.alloc HBW.out.size (.cells #[.int .u64 (c:Int)] 110)).grown hgrow (by have:=HSZ.out;simp;omega) (fun k hk=>Nat.le_of_succ_le (HOW.out.lt k hk).1))
   clear hox htr hown' hgrow
   go_wp2_with fail
   refine HTR.out.mono ?_
   rintro e w3 ⟨v3,rfl,hown,rfl⟩
   go_wp2
   go_ret
   exact⟨v3,rfl,hown,HN.out⟩
open Go.RowKit Go.Gb
def Sn (n:Nat):ByteArray:=⟨(Lib.decDigits n).toArray⟩
theorem sn_list (n:Nat):(Sn n).data.toList=Lib.decDigits n:=by simp[Sn]
theorem sn_vld (n:Nat):vld (Sn n).data.toList=true:=by rw[sn_list];exact vld_dec n
theorem sn_dval (n:Nat):dval (Sn n).data.toList=n:=by rw[sn_list];exact dval_dec n
theorem sn_inj {x y:Nat}(h:Sn x=Sn y):x=y:=by rw[← sn_dval x,← sn_dval y,h]
def Sm (k n:Nat):Prop:=n<10^k
theorem Sm.mono {k l n:Nat}(h:Sm k n)(hkl:k≤l):Sm l n:=Nat.lt_of_lt_of_le h (Nat.pow_le_pow_right (by decide) hkl)
theorem Sm.le {k m n:Nat}(h:Sm k n)(hmn:m≤n):Sm k m:=Nat.lt_of_le_of_lt hmn h
theorem Sm.add {k m n:Nat}(hm:Sm k m)(hn:Sm k n):Sm (k+1) (m+n):=by
 unfold Sm at *;rw[Nat.pow_succ];omega
theorem Sm.mul {k l m n:Nat}(hm:Sm k m)(hn:Sm l n):Sm (k+l) (m*n):=by
 unfold Sm at *
 rw[Nat.pow_add]
 rcases Nat.eq_zero_or_pos n with h|h
 · rw[h,Nat.mul_zero];exact Nat.mul_pos (Nat.pow_pos (by decide)) (Nat.pow_pos (by decide))
 · exact Nat.mul_lt_mul_of_lt_of_le hm (Nat.le_of_lt hn) (Nat.pow_pos (by decide))
theorem Sm.of {a:ByteArray}(h:vld a.data.toList=true){k:Nat}(hl:a.size≤k):Sm k (dval a.data.toList):=by
 have h1:=dval_lt _ (all_of_vld h)
 exact Nat.lt_of_lt_of_le h1 (Nat.pow_le_pow_right (by decide) (by rw[size_list];exact hl))
theorem dec_len:∀ (k n:Nat),Sm k n→0<k→(Lib.decDigits n).length≤k
 | 0,_,_,h=>absurd h (by omega)
 | 1,n,h,_=>by
   have:n<10:=by simpa [Sm] using h
   rw[Lib.decDigits,dif_pos this];simp
 | k+2,n,h,_=>by
   by_cases h10:n<10
   · rw[Lib.decDigits,dif_pos h10];simp
   · rw[Lib.decDigits,dif_neg h10,List.length_append]
     have:=dec_len (k+1) (n / 10) (by unfold Sm at *;rw[Nat.pow_succ]at h;omega) (by omega)
     simp;omega
theorem sn_size {k n:Nat}(h:Sm k n)(hk:0<k):(Sn n).size≤k:=by
 have:=dec_len k n h hk
 rw[← sn_list,size_list]at this
 exact this
theorem sm_digs {k n:Nat}(h:Sm k n)(hk:0<k):(digs n).length≤k:=by
 have h1:=digs_len_str (all_of_vld (sn_vld n)) k (by rw[size_list];have:=sn_size h hk;omega)
 rwa [sn_dval]at h1
def Fit (n:Nat):Prop:=Sm 2000 n
theorem Fit.size {n:Nat}(h:Fit n):(Sn n).size≤2000:=sn_size h (by decide)
theorem Fit.max {n:Nat}(h:Fit n):(Sn n).size≤maxLen:=by have:=h.size;unfold maxLen;omega
theorem nValid (x:Nat)(hx:Fit x)(w:World) :
 Calls Tryz.prog 137 #[.string (Sn x)] w fun e w'=>e=.returned (.bool true)∧w=w' :=
 Valid_yes (Sn x) (sn_vld x) hx.max w
theorem nCompare (x y:Nat)(hx:Fit x)(hy:Fit y)(w:World) :
 Calls Tryz.prog 199 #[.string (Sn x),.string (Sn y)] w fun e w'=>e=.returned (.tuple #[.int .i64 (cmpN x y),.int .i64 0])∧w=w':=by
 have h:=Compare_yes (Sn x) (Sn y) (sn_vld x) (sn_vld y) hx.max hy.max w
 rwa [sn_dval,sn_dval]at h
theorem nAdd (x y:Nat)(hx:Fit x)(hy:Fit y)(w:World)(htab:Tb w) :
 CR 229 #[.string (Sn x),.string (Sn y)] w (.tuple #[.string (Sn (x+y)),.int .i64 0]):=by
 have sx:=hx.size
 have sy:=hy.size
 by_cases hs:(Sn x).size≤18∧(Sn y).size≤18
 · have h:=Add_short (Sn x) (Sn y) (sn_vld x) (sn_vld y) hs.1 hs.2 w htab
   rwa [sn_dval,sn_dval]at h
 · have hxy:x≠0∨y≠0:=by
    rcases Nat.eq_zero_or_pos x with h0|h0
    · rcases Nat.eq_zero_or_pos y with h1|h1
      · exfalso
        subst h0 h1
        have:(Sn 0).size≤1:=sn_size (k:=1) (by simp[Sm]) (by decide)
        omega
      · right;omega
    · left;omega
   have h:=Add_long (Sn x) (Sn y) (sn_vld x) (sn_vld y) (by omega) (by omega) (by omega) (by
    rw[sn_dval,sn_dval]
    exact add_any x y hxy (Nat.le_trans (sm_digs hx (by decide)) (by decide)) (Nat.le_trans (sm_digs hy (by decide)) (by decide))) w htab
   rwa [sn_dval,sn_dval]at h
theorem nSub (x y:Nat)(hx:Fit x)(hyx:y≤x)(w:World)(htab:Tb w) :
 CR 228 #[.string (Sn x),.string (Sn y)] w (.tuple #[.string (Sn (x-y)),.int .i64 0]):=by
 have sx:=hx.size
 have sy:=Fit.size (Sm.le hx hyx)
 have h:=Sub_yes (Sn x) (Sn y) (sn_vld x) (sn_vld y) (by rw[sn_dval,sn_dval];exact hyx) (by omega) (by omega) w htab
 rwa [sn_dval,sn_dval]at h
theorem nMul (x y:Nat)(hx:Fit x)(hy:Fit y)(w:World)(htab:Tb w) :
 CR 200 #[.string (Sn x),.string (Sn y)] w (.tuple #[.string (Sn (x*y)),.int .i64 0]):=by
 have sx:=hx.size
 have sy:=hy.size
 have h:=Mul_yes (Sn x) (Sn y) (sn_vld x) (sn_vld y) (by omega) (by omega) w htab
 rwa [sn_dval,sn_dval]at h
theorem nDivMod (x y:Nat)(hx:Fit x)(hy:Fit y)(h0:y≠0)(w:World)(htab:Tb w) :
 CR 227 #[.string (Sn x),.string (Sn y)] w (.tuple #[.string (Sn (x / y)),.string (Sn (x%y)),.int .i64 0]):=by
 have sx:=hx.size
 have sy:=hy.size
 have h:=DivMod_yes (Sn x) (Sn y) (sn_vld x) (sn_vld y) (by rw[sn_dval];exact h0) (by omega) (by omega) w htab
 rwa [sn_dval,sn_dval]at h
open Go.RowKit Go.Gb
set_option maxRecDepth 100000 in
theorem RTo_zero (a:Option Addr)(c:Nat)(w:World):Calls Tryz.prog 53 #[.slice a 0 c] w fun e w'=>e=.returned (.string (Sn 0))∧w=w':=by
 go_enter Tryz.func53,Tryz.ntmps53
 go_wp2
 go_ret
 refine⟨?_,rfl⟩
 unfold Sn
 rw[Lib.decDigits_one (by decide)]
 rfl
theorem RTo_any (v:Value)(n:Nat)(hl:(digs n).length≤10000)(w:World)(h:Rd .u32 w v (digs n)) :
 CR 53 #[v] w (.string (Sn n)):=by
 by_cases h0:n=0
 · subst h0
   rw[digs_zero]at h
   obtain⟨a,c,rfl⟩:=rd_form h
   exact(RTo_zero a c w).mono fun e w' ⟨h1,h2⟩=>⟨h1,h2▸Below.refl _ _⟩
 · have hne:digs n≠[]:=by rw[digs_pos h0];simp
   have hp:0<(digs n).length:=List.length_pos_iff.2 hne
   obtain⟨b,o,c,rfl,_,_,hb,hc⟩:=rd_pos h hp
   have hlast:(digs n).getD ((digs n).length-1) 0≠0:=by
    have:=digs_last n hne
    rw[List.getLast_eq_getElem]at this
    rwa [getD_of_lt (by omega)]
   have:=RTo_some b o c (digs n) (digs_lt n) hp hlast hl w hb hc
   rw[wval_digs]at this
   exact this
end Go.Proofs.YthjmjlfnpnbonaaGreatDoor
set_option maxRecDepth 100000
set_option maxHeartbeats 20000000
namespace Go.Proofs.YthjmjlfnpnbonaaGreatDoor
open Go.RowKit Go.Gb
theorem bcell {W w1:World}(hb:Below W.heap.size W w1):(∀ b o,b<W.heap.size→w1.cell? ⟨b,o,none⟩=W.cell? ⟨b,o,none⟩)∧(∀ b o,b<W.heap.size→w1.frozen? ⟨b,o,none⟩=W.frozen? ⟨b,o,none⟩) :=
 ⟨fun b o h=>hb.cell (p:=⟨b,o,none⟩) h,fun b o h=>hb.frozen (p:=⟨b,o,none⟩) h⟩
def Zz (w:World):Prop:=1<w.heap.size∧w.cell? ⟨1,0,none⟩=some (.int .i64 0)∧w.cell? ⟨1,1,none⟩=some (.string ⟨#[48]⟩)
theorem Zz.on {w w':World}(h:Zz w)(hb:Below w.heap.size w w'):Zz w' :=
 ⟨Nat.lt_of_lt_of_le h.1 hb.size,(hb.cell (p:=⟨1,0,none⟩) h.1).trans h.2.1,(hb.cell (p:=⟨1,1,none⟩) h.1).trans h.2.2⟩
structure La (w:World):Prop where
 tb:Tb w
 zz:Zz w
theorem La.on {w w':World}(h:La w)(hb:Below w.heap.size w w'):La w':=⟨h.tb.on hb,h.zz.on hb⟩
theorem sn_zero:Sn 0=⟨#[48]⟩:=by decide +kernel
theorem sn_one:Sn 1=⟨#[49]⟩:=by decide +kernel
theorem sn_list2 (n:Nat):(Sn n).toList=Lib.decDigits n:=by rw[toList_data,sn_list]
theorem sn_neq {x y:Nat}(h:x≠y):((Sn x).toList==(Sn y).toList)=false:=by
 rw[beq_eq_false_iff_ne,sn_list2,sn_list2]
 exact fun h2=>h (dec_inj h2)
theorem sn_neq0 {x:Nat}(h:x≠0):((Sn x).toList==[48])=false:=by
 rw[beq_eq_false_iff_ne,sn_list2]
 intro h2
 apply h
 rw[← dval_dec x,h2];rfl
def Zv (z:Int):Value:=.agg #[.int .i64 z.sign,.string (Sn z.natAbs)]
def Sz (z:Int):ByteArray:=if z<0 then ⟨(45 :: Lib.decDigits z.natAbs).toArray⟩ else Sn z.natAbs
theorem sz_neg {n:Nat}(h:n≠0):Sz (-(n:Int))=⟨(45 :: Lib.decDigits n).toArray⟩:=by
 unfold Sz;rw[if_pos (by omega),Int.natAbs_neg,Int.natAbs_natCast]
theorem sz_nat (n:Nat):Sz (n:Int)=Sn n:=by
 unfold Sz;rw[if_neg (by omega),Int.natAbs_natCast]
theorem zv_neg {n:Nat}(h:n≠0):Zv (-(n:Int))=.agg #[.int .i64 (-1),.string (Sn n)]:=by
 unfold Zv;rw[Int.natAbs_neg,Int.natAbs_natCast,Int.sign_neg,Int.sign_natCast_of_ne_zero h]
theorem zv_pos {n:Nat}(h:n≠0):Zv (n:Int)=.agg #[.int .i64 1,.string (Sn n)]:=by
 unfold Zv;rw[Int.natAbs_natCast,Int.sign_natCast_of_ne_zero h]
theorem zv_zero:Zv 0=.agg #[.int .i64 0,.string ⟨#[48]⟩]:=by
 unfold Zv;rw[← sn_zero];rfl
theorem int_cases (z:Int):(∃ n:Nat,n≠0∧z = -(n:Int))∨z=0∨∃ n:Nat,n≠0∧z=(n:Int):=by
 rcases Int.lt_trichotomy z 0 with h|h|h
 · left;exact⟨z.natAbs,by omega,by omega⟩
 · right;left;exact h
 · right;right;exact⟨z.natAbs,by omega,by omega⟩
def FitZ (z:Int):Prop:=Fit z.natAbs
theorem FitZ.neg {n:Nat}(h:FitZ (-(n:Int))):Fit n:=by unfold FitZ at h;rwa [Int.natAbs_neg,Int.natAbs_natCast]at h
theorem FitZ.nat {n:Nat}(h:FitZ (n:Int)):Fit n:=by unfold FitZ at h;rwa [Int.natAbs_natCast]at h
theorem Fit.neg {n:Nat}(h:Fit n):FitZ (-(n:Int)):=by unfold FitZ;rwa [Int.natAbs_neg,Int.natAbs_natCast]
theorem Fit.nat {n:Nat}(h:Fit n):FitZ (n:Int):=by unfold FitZ;rwa [Int.natAbs_natCast]
theorem fit0:Fit 0:=(show Sm 1 0 by simp[Sm]).mono (by decide)
theorem fit1:Fit 1:=(show Sm 1 1 by simp[Sm]).mono (by decide)
theorem negative_raw (s:Int)(b:ByteArray)(h1 : -1≤s)(h2:s≤1)(w:World) :
 CR 207 #[.agg #[.int .i64 s,.string b]] w (.agg #[.int .i64 (-s),.string b]):=by
 go_enter Tryz.func207,Tryz.ntmps207
 go_wp2
 refine bodyPost_ret (v:=.agg #[.int .i64 (-s),.string b]) (by simp[results,Tryz.results207,go_sem]) rfl ⟨rfl,?_⟩
 repeat (first|exact Below.refl _ _|refine Below.setCell ?_ (by simp) _|refine Below.alloc ?_ (by simp) _|refine Below.drew ?_)
theorem negative_any (z:Int)(w:World) :
 CR 207 #[Zv z] w (Zv (-z)):=by
 have h:=negative_raw z.sign (Sn z.natAbs) (by rcases Int.sign_trichotomy z with h|h|h<;>omega) (by rcases Int.sign_trichotomy z with h|h|h<;>omega) w
 unfold Zv
 rw[Int.sign_neg,Int.natAbs_neg]
 exact h
theorem string_any (z:Int)(hf:FitZ z)(w:World) :
 CR 173 #[Zv z] w (.string (Sz z)):=by
 rcases int_cases z with⟨n,hn,rfl⟩|rfl|⟨n,hn,rfl⟩
 · rw[zv_neg hn,sz_neg hn]
   have hadd:=run_string_add_sum (P:=Tryz.prog) (w.alloc (.cells #[.int .i64 (-1),.string (Sn n)] 155)) ⟨#[45]⟩ (Sn n) (by have:=hf.neg.size;have e:(⟨#[45]⟩:ByteArray).size=1:=rfl;omega)
   clear hn hf
   go_enter Tryz.func173,Tryz.ntmps173
   go_wp2
   go_ret
   refine⟨?_,(Below.refl _ _).alloc (Nat.le_refl _) _⟩
   have e:(⟨#[45]⟩:ByteArray)++Sn n=⟨(45 :: Lib.decDigits n).toArray⟩:=by
    apply ByteArray.ext
    apply Array.ext'
    simp[Sn]
   rw[e]
   rfl
 · rw[zv_zero,show Sz 0=⟨#[48]⟩from(sz_nat 0).trans sn_zero]
   go_enter Tryz.func173,Tryz.ntmps173
   go_wp2
   go_ret
   exact⟨rfl,(Below.refl _ _).alloc (Nat.le_refl _) _⟩
 · rw[zv_pos hn,sz_nat]
   go_enter Tryz.func173,Tryz.ntmps173
   go_wp2
   go_ret
   exact⟨rfl,(Below.refl _ _).alloc (Nat.le_refl _) _⟩
theorem signed_zero (s:Int)(w:World)(hz:Zz w) :
 CR 138 #[.int .i64 s,.string ⟨#[48]⟩] w (Zv 0):=by
 rw[zv_zero]
 obtain⟨h0,h1,h2⟩:=hz
 go_enter Tryz.func138,Tryz.ntmps138
 go_wp2
 refine bodyPost_ret (v:=.agg #[.int .i64 0,.string ⟨#[48]⟩]) (by simp[results,Tryz.results138,go_sem]) rfl ⟨rfl,?_⟩
 repeat (first|exact Below.refl _ _|refine Below.setCell ?_ (by simp) _|refine Below.alloc ?_ (by simp) _|refine Below.drew ?_)
theorem signed_some (s:Int)(n:Nat)(hn:n≠0)(w:World) :
 CR 138 #[.int .i64 s,.string (Sn n)] w (.agg #[.int .i64 s,.string (Sn n)]):=by
 have h0:=sn_neq0 hn
 clear hn
 go_enter Tryz.func138,Tryz.ntmps138
 go_wp2
 refine bodyPost_ret (v:=.agg #[.int .i64 s,.string (Sn n)]) (by simp[results,Tryz.results138,go_sem]) rfl ⟨rfl,?_⟩
 repeat (first|exact Below.refl _ _|refine Below.setCell ?_ (by simp) _|refine Below.alloc ?_ (by simp) _|refine Below.drew ?_)
theorem signed_any (s:Int)(n:Nat)(z:Int)(hz:z=s*(n:Int))(hs:s=1∨s = -1)(w:World)(hl:Zz w) :
 CR 138 #[.int .i64 s,.string (Sn n)] w (Zv z):=by
 by_cases hn:n=0
 · subst hn
   obtain rfl:z=0:=by rw[hz];simp
   rw[sn_zero]
   exact signed_zero s w hl
 · have h:=signed_some s n hn w
   rcases hs with rfl|rfl
   · rw[show z=(n:Int) by omega,zv_pos hn];exact h
   · rw[show z = -(n:Int) by omega,zv_neg hn];exact h
open Go.RowKit
abbrev CL (f : FuncId) (args : Array Value) (v : Value) : Prop := ∀ W, La W → Calls Tryz.prog f args W fun e w' => e = .returned v ∧ Below W.heap.size W w'
end Go.Proofs.YthjmjlfnpnbonaaGreatDoor
