/- Texts of this proof, one behind the other. -/
import Derived.Test.YtcihodmmaclihaaGreatDoorKe
import Derived.Test.YtcihodmmaclihaaGreatDoorMz15q
open Go.Lib (hid)
namespace Go.Proofs.YtcihodmmaclihaaGreatDoor
open Go.RowKit Go.Gb
set_option maxHeartbeats 2000000 in
theorem Divide_long (v1 v2:Value)(a b:Nat)(hab:¬ a<b)(hlb:2≤(digs b).length)(hl:(digs a).length≤90000)(w:World)(h1:Rd .u64 w v1 (digs a))(h2:Rd .u64 w v2 (digs b)) :
 Calls Tryz.prog 182 #[v1,v2] w fun e w'=>∃ q r,e=.returned (.tuple #[q,r])∧Own .u64 143 w.heap.size w' q (digs (a / b))∧Own .u64 143 w.heap.size w' r (digs (a%b))∧Below w.heap.size w w':=by
 have hless:=Less_any v1 v2 a b (by omega) w h1 h2
 rw[show decide (a<b)=false by simpa using hab]at hless
 have hlong:=fun(w':World) (hb:Below w.heap.size w w')=>divLong_any v1 v2 a b hlb (by omega) hl w' (h1.below hb) (h2.below hb)
 obtain⟨b2,o2,c2,rfl,_,_,k2,r2⟩:=rd_pos h2 (by omega)
 generalize hn:(digs b).length=n at *
 have HL:=hid hless
 have HD:=hid hlong
 have Hn:=hid hn
 have hne:((n:Int)==1)=false:=beq_eq_false_iff_ne.2 (by omega)
 clear hless h1 h2 hab hl hlong r2 hn
 go_enter Tryz.func182,Tryz.ntmps182
 go_wp2_with fail
 refine HL.out.mono ?_
 rintro e w1 ⟨rfl,hb1⟩
 have HDw:=hid (HD.out w1 hb1)
 have HB1:=hid hb1
 clear hb1
 go_wp2_with fail
 refine HDw.out.mono ?_
 rintro e w2 ⟨q,r,rfl,hq,hr,hb2⟩
 have HQ:=hid (hq.mono HB1.out.size)
 have HR:=hid (hr.mono HB1.out.size)
 have HB2:=hbt HB1 hb2
 clear hq hr hb2
 go_wp2
 go_ret2
 exact⟨q,r,rfl,HQ.out,HR.out,HB2.out⟩
theorem Divide_any (v1 v2:Value)(a b:Nat)(hb:b≠0)(hl:(digs a).length≤90000)(w:World)(h1:Rd .u64 w v1 (digs a))(h2:Rd .u64 w v2 (digs b)) :
 Calls Tryz.prog 182 #[v1,v2] w fun e w'=>∃ q r,e=.returned (.tuple #[q,r])∧Own .u64 143 w.heap.size w' q (digs (a / b))∧Own .u64 143 w.heap.size w' r (digs (a%b))∧Below w.heap.size w w':=by
 by_cases hab:a<b
 · exact(Divide_less v1 v2 a b hab (by omega) w h1 h2).mono fun e w' ⟨r,he,hr,hb⟩=>⟨_,r,he,by rw[Nat.div_eq_of_lt hab,digs_zero];exact Own.nil _ _ _ _,by rw[Nat.mod_eq_of_lt hab];exact hr,hb⟩
 · rcases Nat.lt_or_ge (digs b).length 2 with h|h
   · exact Divide_word v1 v2 a b hab (by have:0<(digs b).length:=by{ rw[digs_pos hb];simp };omega) (by omega) w h1 h2
   · exact Divide_long v1 v2 a b hab h hl w h1 h2
open Go.RowKit Go.Gb
set_option maxHeartbeats 2000000 in
theorem DivMod_long (a b:ByteArray)(ha:vld a.data.toList=true)(hb:vld b.data.toList=true)(h0:dval b.data.toList≠0)(hab:dval b.data.toList≤dval a.data.toList)(hla:19<a.size)(hla2:a.size≤90000)(w:World)(htab:Tb w) :
 CR 188 #[.string a,.string b] w (.tuple #[St (Lib.decDigits (dval a.data.toList / dval b.data.toList)),St (Lib.decDigits (dval a.data.toList%dval b.data.toList)),.int .i64 0]):=by
 have hlen:b.size≤a.size:=by
  rcases Nat.lt_or_ge a.size b.size with h|h
  · have:=dval_lt_of_len ha hb (by rw[size_list,size_list];exact h)
    omega
  · exact h
 have HA:=hid ha
 have HB:=hid hb
 have HT:=hid htab
 have Hla:=hid (show a.size≤maxLen by unfold maxLen;omega)
 have Hlb:=hid (show b.size≤maxLen by unfold maxLen;omega)
 have hra:=hid (all_of_vld ha)
 have hrb:=hid (all_of_vld hb)
 have hne:=neq_zero_str (b:=b) h0
 have hcmp:=compare_num a b ha hb
 have hcc:cmpN (dval a.data.toList) (dval b.data.toList)=0∨cmpN (dval a.data.toList) (dval b.data.toList)=1:=by
  rcases Nat.lt_or_ge (dval b.data.toList) (dval a.data.toList) with h|h
  · exact Or.inr (cmpN_gt h)
  · exact Or.inl (by rw[show dval a.data.toList=dval b.data.toList by omega];exact cmpN_eq _)
 have hda:=digs_len_str (all_of_vld ha) 90000 (by rw[size_list];omega)
 have HDA:=hid hda
 have HQ:=hid (Nat.le_trans (digs_length_mono (Nat.div_le_self (dval a.data.toList) (dval b.data.toList))) hda)
 have HM:=hid (Nat.le_trans (digs_length_mono (Nat.mod_le (dval a.data.toList) (dval b.data.toList))) hda)
 have H0:=hid h0
 have HC:=hid hcmp
 have Ha9:=hid (show a.size≤100000 by omega)
 have Hb9:=hid (show b.size≤100000 by omega)
 have hl1:¬ (a.size:Int)≤19:=by omega
 have hl2:decide ((a.size:Int)≤19)=false:=decide_eq_false hl1
 have hc0:(cmpN (dval a.data.toList) (dval b.data.toList)<0)=False:=by
  rcases hcc with h|h<;>rw[h]<;>simp
 clear ha hb htab h0 hab hla hla2 hlen hcmp hda hcc
 go_enter Tryz.func188,Tryz.ntmps188
 go_wp2_with fail
 refine(Valid_yes a HA.out Hla.out _).mono ?_
 rintro e w' ⟨rfl,rfl⟩
 go_wp2_with fail
 refine(Valid_yes b HB.out Hlb.out _).mono ?_
 rintro e w' ⟨rfl,rfl⟩
 go_wp2_with fail
 refine(HC.out _).mono ?_
 rintro e w' ⟨rfl,rfl⟩
 generalize cmpN (dval a.data.toList) (dval b.data.toList)=cc at *
 go_wp2_with fail
 refine(Read_any a hra.out Ha9.out _).mono ?_
 rintro e w1 ⟨v1,rfl,ho1,hb1⟩
 have HB1:=hid hb1
 have HO1:=hid ho1
 clear hb1 ho1
 go_wp2_with fail
 refine(Read_any b hrb.out Hb9.out _).mono ?_
 rintro e w2 ⟨v2,rfl,ho2,hb2⟩
 have HB2:=hbt HB1 hb2
 have hm:=hid (Divide_any v1 v2 _ _ H0.out HDA.out w2 (HO1.out.rd.below hb2) ho2.rd)
 clear hb2 ho2
 go_wp2_with fail
 refine hm.out.mono ?_
 rintro e w3 ⟨q,r,rfl,hq,hr,hb3⟩
 have HB3:=hbt HB2 hb3
 have hwq:=hid (Write_any q _ (by have:=HQ.out;omega) w3 hq.rd (HT.out.on HB3.out))
 have HR:=hid hr
 clear hb3 hq hr
 go_wp2_with fail
 refine hwq.out.mono ?_
 rintro e w4 ⟨rfl,hb4⟩
 have hwr:=hid (Write_any r _ (by have:=HM.out;omega) w4 (HR.out.rd.below hb4) (HT.out.on (HB3.out.trans (hb4.mono HB3.out.size))))
 have HB4:=hbt HB3 hb4
 clear hb4
 go_wp2_with fail
 refine hwr.out.mono ?_
 rintro e w5 ⟨rfl,hb5⟩
 have HB5:=hbt HB4 hb5
 clear hb5
 go_wp2
 go_ret3
 exact⟨rfl,HB5.out⟩
theorem DivMod_yes (a b:ByteArray)(ha:vld a.data.toList=true)(hb:vld b.data.toList=true)(h0:dval b.data.toList≠0)(hla:a.size≤90000)(hlb:b.size≤90000)(w:World)(htab:Tb w) :
 CR 188 #[.string a,.string b] w (.tuple #[St (Lib.decDigits (dval a.data.toList / dval b.data.toList)),St (Lib.decDigits (dval a.data.toList%dval b.data.toList)),.int .i64 0]):=by
 rcases Nat.lt_or_ge (dval a.data.toList) (dval b.data.toList) with hab|hab
 · refine(DivMod_less a b ha hb hab (by unfold maxLen;omega) (by unfold maxLen;omega) w).mono fun e w' ⟨he,hw⟩=>⟨?_,hw▸Below.refl _ _⟩
   have hs:Value.string a=St a.data.toList:=by cases a;simp[St]
   have h0:Lib.decDigits 0=[48]:=dec_dval [48] (by decide)
   rw[he,Nat.div_eq_of_lt hab,Nat.mod_eq_of_lt hab,dec_dval _ ha,h0,hs]
 · rcases Nat.lt_or_ge 19 a.size with hs|hs
   · exact DivMod_long a b ha hb h0 hab hs hla w htab
   · exact DivMod_short a b ha hb h0 hab hs w htab
end Go.Proofs.YtcihodmmaclihaaGreatDoor
set_option maxRecDepth 100000
set_option maxHeartbeats 20000000
open Go.Lib (hid)
namespace Go.Proofs.YtcihodmmaclihaaGreatDoor
open Go.RowKit Go.Gb
theorem arith_add {a b c:Nat}{os:List Nat}(hs:SumInv (digs a) (digs b) os (digs a).length c)(hl:(digs b).length≤(digs a).length):wval (os++[c])=a+b∧∀ x∈os++[c],x<BB:=by
 obtain⟨h1,h2⟩:=hs.done hl
 rw[wval_digs,wval_digs]at h1
 exact⟨h1,h2⟩
theorem join_add (v1 v2:Value)(a b:Nat)(ha:a≠0)(hlb:(digs b).length≤(digs a).length)(hl:(digs a).length≤10000)(w:World)(h1:Rd .u64 w v1 (digs a))(h2:Rd .u64 w v2 (digs b)) :
 Calls Tryz.prog 204 #[v1,v2,.func (.func 206) #[.pointer (some ⟨w.heap.size,0,none⟩)] #[]] (w.alloc (.cells #[.int .u64 0] 216)) fun e w' =>
  ∃ v,e=.returned v∧∃ (os:List Nat) (c:Nat),wval (os++[c])=a+b∧(∀ x∈os++[c],x<BB)∧os.length=(digs a).length∧Own .u64 143 (w.heap.size+1) w' v os∧Car w' w.heap.size c∧Below w.heap.size w w':=by
 obtain⟨b1,o1,c1,rfl,_,_,k1,r1⟩:=rd_pos h1 (List.length_pos_iff.2 (by rw[digs_pos ha];simp))
 have hb0:=(Below.refl w.heap.size w).alloc (Nat.le_refl _) (.cells #[.int .u64 0] 216)
 have hcx:∀ i,i<(digs a).length→(w.alloc (.cells #[.int .u64 0] 216)).cell? ⟨b1,o1+i,none⟩=some (.int .u64 (((digs a).getD i 0:Nat):Int)):=fun i hi=>(hb0.cell (p:=⟨b1,o1+i,none⟩) k1).trans (r1 i hi)
 have hz:(w.alloc (.cells #[.int .u64 0] 216)).heap.size=w.heap.size+1:=by simp
 have fin:∀ (e:Ending) (w':World),(e=.returned (.slice (some ⟨w.heap.size+1,0,none⟩) (digs a).length ((digs a).length+1))∧∃ (os:List Nat) (c:Nat),SumInv (digs a) (digs b) os (digs a).length c∧Blk w' (w.heap.size+1) (os++[0])∧Car w' w.heap.size c∧(w.alloc (.cells #[.int .u64 0] 216)).grownBy w' (some w.heap.size)) →
  ∃ v,e=.returned v∧∃ (os:List Nat) (c:Nat),wval (os++[c])=a+b∧(∀ x∈os++[c],x<BB)∧os.length=(digs a).length∧Own .u64 143 (w.heap.size+1) w' v os∧Car w' w.heap.size c∧Below w.heap.size w w':=by
  rintro e w' ⟨he,os,c,hs,hblk,hc,hg⟩
  obtain⟨g1,g2⟩:=arith_add hs hlb
  have hlen:=hs.1
  have hown:=hblk.own (B:=w.heap.size+1) (by omega) (by unfold maxLen;simp;omega) os.length (by simp)
  rw[List.take_left,hlen,List.length_append,List.length_singleton,hlen]at hown
  exact⟨_,he,os,c,g1,g2,hlen,hown,hc,hb0.grown hg (by simp) (fun k hk=>by cases hk;exact Nat.le_refl _)⟩
 rcases h2 with⟨rfl,h2⟩|⟨b2,o2,c2,rfl,_,_,k2,r2⟩
 · have:=join_plus_nil SumInv w.heap.size b1 o1 c1 none 0 (digs a) (digs b) (by omega) (w.alloc (.cells #[.int .u64 0] 216)) (plus_ok _ _ _ (digs_lt a) (digs_lt b)) (SumInv.start _ _) (fun os i c h=>h.1) (car_alloc w) (by rw[hz];omega) (by omega) hcx (by rw[h2];simp)
   rw[hz,h2]at this
   rw[h2]at fin
   exact this.mono fin
 · have:=join_plus_some SumInv w.heap.size b1 o1 c1 b2 o2 c2 (digs a) (digs b) (by omega) (w.alloc (.cells #[.int .u64 0] 216)) (plus_ok _ _ _ (digs_lt a) (digs_lt b)) (SumInv.start _ _) (fun os i c h=>h.1) (car_alloc w) (by rw[hz];omega) (by omega) hcx (by rw[hz];omega) (by omega) (fun i hi=>(hb0.cell (p:=⟨b2,o2+i,none⟩) k2).trans (r2 i hi))
   rw[hz]at this
   exact this.mono fin
theorem add_any (a b:Nat)(hab:a≠0∨b≠0)(hla:(digs a).length≤10000)(hlb:(digs b).length≤10000):AddOk a b:=by
 intro v1 v2 w h1 h2
 obtain⟨i0,hi,hz0,hz1,hz2⟩:=info_parts Tryz.info143
 by_cases hlt:(digs a).length<(digs b).length
 · have hb:b≠0:=by intro h;rw[h,digs_zero]at hlt;simp at hlt
   have HJ:=hid (join_add v2 v1 b a hb (by omega) hlb w h2 h1)
   rw[Nat.add_comm b a]at HJ
   clear hb
   obtain⟨a1,c1,rfl⟩:=rd_form h1
   obtain⟨a2,c2,rfl⟩:=rd_form h2
   have Hl:=hid hlb
   clear h1 h2 hab hla hlb
   generalize a+b=s at *
   generalize (digs a).length=m at *
   generalize (digs b).length=n at *
   go_enter Tryz.func200,Tryz.ntmps200
   go_wp2_with fail
   refine HJ.out.mono ?_
   rintro e w1 ⟨v,rfl,os,c,g1,g2,g3,hown,hcar,hbw⟩
   have hc1:=cell_of_one hcar
   have HG1:=hid g1
   have HG2:=hid g2
   have HG3:=hid g3
   have HOW:=hid (show w1.ownsRow (w.heap.size+1) 143 1 v os.length (cls .u64 os) from hown)
   have HBW:=hid hbw
   have HSZ:=hid hcar.lt
   clear g1 g2 g3 hown hcar hbw
   go_wp2_with (at_builtin;refine wpList_append_own _ rfl _ _ 129 rfl (w.heap.size+1) 143 i0 (.int .u64 0) 1 8 Tryz.underlying129 hi hz0 hz1 hz2 rfl (by decide) _ _ _ rfl (HOW.out.alloc _) ⟨w1.heap.size,0,none⟩ 1 1 [.int .u64 (c:Int)] rfl rfl (cells_one _ _ _) (by intro u hu;simp at hu;subst hu;rfl) (by have:=HG3.out;have:=Hl.out;unfold maxLen;omega) (by have:=HG3.out;have:=Hl.out;omega) (by have:=HSZ.out;simp;omega) ?_)
   intro v' w2 hown' hgrow _
   have hox:Own .u64 143 w.heap.size w2 v' (os++[c]):=(show Own .u64 143 (w.heap.size+1) w2 v' (os++[c]) by unfold Own;rw[cls_append,List.length_append];exact hown').mono (Nat.le_succ _)
   have htr:=Trim_own 143 w.heap.size v' (os++[c]) HG2.out w2 hox
   rw[HG1.out]at htr
   have HTR:=hid htr
   have HN:=hid ((HBW.out.alloc HBW.out.size (.cells #[.int .u64 (c:Int)] 143)).grown hgrow (by have:=HSZ.out;simp;omega) (fun k hk=>Nat.le_of_succ_le (HOW.out.lt k hk).1))
   clear hox htr hown' hgrow
   go_wp2_with fail
   refine HTR.out.mono ?_
   rintro e w3 ⟨v3,rfl,hown,rfl⟩
   go_wp2
   go_ret
   exact⟨v3,rfl,hown,HN.out⟩
 · have ha:a≠0:=by
    intro h
    rw[h,digs_zero]at hlt
    rcases hab with h2|h2
    · exact h2 h
    · have:=List.length_pos_iff.2 (show digs b≠[]by rw[digs_pos h2];simp)
      simp at hlt;rw[hlt]at this;simp at this
   have HJ:=hid (join_add v1 v2 a b ha (by omega) hla w h1 h2)
   clear ha
   obtain⟨a1,c1,rfl⟩:=rd_form h1
   obtain⟨a2,c2,rfl⟩:=rd_form h2
   have Hl:=hid hla
   clear h1 h2 hab hla hlb
   generalize a+b=s at *
   generalize (digs a).length=m at *
   generalize (digs b).length=n at *
   go_enter Tryz.func200,Tryz.ntmps200
   go_wp2_with fail
   refine HJ.out.mono ?_
   rintro e w1 ⟨v,rfl,os,c,g1,g2,g3,hown,hcar,hbw⟩
   have hc1:=cell_of_one hcar
   have HG1:=hid g1
   have HG2:=hid g2
   have HG3:=hid g3
   have HOW:=hid (show w1.ownsRow (w.heap.size+1) 143 1 v os.length (cls .u64 os) from hown)
   have HBW:=hid hbw
   have HSZ:=hid hcar.lt
   clear g1 g2 g3 hown hcar hbw
   go_wp2_with (at_builtin;refine wpList_append_own _ rfl _ _ 129 rfl (w.heap.size+1) 143 i0 (.int .u64 0) 1 8 Tryz.underlying129 hi hz0 hz1 hz2 rfl (by decide) _ _ _ rfl (HOW.out.alloc _) ⟨w1.heap.size,0,none⟩ 1 1 [.int .u64 (c:Int)] rfl rfl (cells_one _ _ _) (by intro u hu;simp at hu;subst hu;rfl) (by have:=HG3.out;have:=Hl.out;unfold maxLen;omega) (by have:=HG3.out;have:=Hl.out;omega) (by have:=HSZ.out;simp;omega) ?_)
   intro v' w2 hown' hgrow _
   have hox:Own .u64 143 w.heap.size w2 v' (os++[c]):=(show Own .u64 143 (w.heap.size+1) w2 v' (os++[c]) by unfold Own;rw[cls_append,List.length_append];exact hown').mono (Nat.le_succ _)
   have htr:=Trim_own 143 w.heap.size v' (os++[c]) HG2.out w2 hox
   rw[HG1.out]at htr
   have HTR:=hid htr
   have HN:=hid ((HBW.out.alloc HBW.out.size (.cells #[.int .u64 (c:Int)] 143)).grown hgrow (by have:=HSZ.out;simp;omega) (fun k hk=>Nat.le_of_succ_le (HOW.out.lt k hk).1))
   clear hox htr hown' hgrow
   go_wp2_with fail
   refine HTR.out.mono ?_
   rintro e w3 ⟨v3,rfl,hown,rfl⟩
   go_wp2
   go_ret
   exact⟨v3,rfl,hown,HN.out⟩
end Go.Proofs.YtcihodmmaclihaaGreatDoor
