/- Texts of this proof, one behind the other. -/
import Derived.Test.YthjmjlfnpnbonaaGreatDoorWf
set_option maxRecDepth 100000
set_option maxHeartbeats 20000000
open Go.Lib (hid)
namespace Go.Proofs.YthjmjlfnpnbonaaGreatDoor
open Go.RowKit Go.Gb
def DwInv (xs os:List Nat) (d i r:Nat):Prop:=os.length=xs.length-i∧(∀ x∈os,x<BB)∧r<d∧wval (xs.drop i)=wval os*d+r
theorem DwInv.start (xs:List Nat){d:Nat}(hd:0<d):DwInv xs [] d xs.length 0:=⟨by simp,by simp,hd,by rw[List.drop_of_length_le (Nat.le_refl _)];simp[wval]⟩
theorem DwInv.step {xs os:List Nat}{d i r:Nat}(h:DwInv xs os d (i+1) r)(hi:i<xs.length)(hx:∀ x∈xs,x<BB):DwInv xs ((r*BB+xs.getD i 0) / d :: os) d i ((r*BB+xs.getD i 0)%d):=by
 obtain⟨h1,h2,h3,h4⟩:=h
 have hw:=hx _ (mem_getD hi)
 obtain⟨g1,g2⟩:=div_step (xs.getD i 0) h4 h3
 refine⟨by simp[h1];omega,?_,g2,?_⟩
 · intro x hm
   rcases List.mem_cons.1 hm with hm|hm
   · rw[hm];exact div_word_lt h3 hw
   · exact h2 x hm
 · rw[wval_drop hi,g1,wval,Nat.add_comm (BB*wval os)]
theorem ret_pair_int {v:Value}{k:IntKind}{a b:Int}(h:a=b):Ending.returned (.tuple #[v,.int k a])=.returned (.tuple #[v,.int k b]):=by rw[h]
theorem repl_snoc (j:Nat):List.replicate (j+1) (0:Nat)=List.replicate j 0++[0]:=by rw[List.replicate_succ']
theorem divW_some (b1 o1 c1:Nat)(xs:List Nat)(d:Nat)(hd:0<d)(hdB:d≤1000000000)(hx:∀ x∈xs,x<BB)(hl:xs.length≤100000)(w:World)(hb1:b1<w.heap.size)
 (hcx:∀ i,i<xs.length→w.cell? ⟨b1,o1+i,none⟩=some (.int .u64 ((xs.getD i 0:Nat):Int))) :
 Calls Tryz.prog 233 #[.slice (some ⟨b1,o1,none⟩) xs.length c1,.int .u64 (d:Int)] w fun e w' =>
  ∃ v,e=.returned (.tuple #[v,.int .u64 ((wval xs%d:Nat):Int)])∧Own .u64 110 w.heap.size w' v (digs (wval xs / d))∧Below w.heap.size w w':=by
 obtain⟨i0,hi,hz0,hz1,hz2⟩:=info_parts Tryz.info110
 have HX:=hid hx
 have HCX:=hid hcx
 have hd1:(1:Int)≤(d:Int):=by omega
 have hd2:(d:Int)≤1000000000:=by omega
 have hdz:((d:Int)==0)=false:=beq_eq_false_iff_ne.2 (by omega)
 have HD:=hid hd
 have HDB:=hid hdB
 clear hx hcx hd hdB
 go_enter Tryz.func233,Tryz.ntmps233
 go_wp2_with (at_make;refine wpList_make_full _ rfl _ _ 174 rfl w.heap.size 110 i0 (.int .u64 0) 1 Tryz.underlying174 hi hz0 hz1 _ _ _ _ xs.length rfl rfl (by omega) (by omega) ?b2 ?b3 (Nat.le_refl _) ?_)
 case b2=>rw[hz2];omega
 case b3=>unfold maxLen;omega
 intro w0 hown0 hgrow0
 have HB0:=hid (show Blk w0 w.heap.size (List.replicate xs.length 0) from Blk.of_made hown0 (madeCells_u64 _))
 have HN0:=hid ((Below.refl w.heap.size w).grown hgrow0 (Nat.le_refl _) (fun k h=>by cases h))
 clear hown0 hgrow0
 go_wp2
 go_loopw [7,8] (fun rr ii wr=>∃ (z:Int) (r:Nat) (os:List Nat),-1≤z∧z<xs.length∧ii=.int .i64 z∧rr=.int .u64 (r:Int)∧Hid (DwInv xs os d (z+1).toNat r)∧Hid (Blk wr w.heap.size (List.replicate (z+1).toNat 0++os))∧Hid (Below w.heap.size w wr)) (fun _ ii _=>(intOf ii+1).toNat)
 case atStart=>exact⟨(xs.length:Int)-1,0,[],by omega,by omega,rfl,rfl,by rw[show((xs.length:Int)-1+1).toNat=xs.length by omega];exact DwInv.start xs HD.out,by rw[show((xs.length:Int)-1+1).toNat=xs.length by omega,List.append_nil];exact HB0,HN0⟩
 case round =>
  obtain⟨z,r,os,hz1',hz8,rfl,rfl,hI,hB,hn⟩:=hrel
  by_cases hz:0≤z
  · obtain⟨j,rfl⟩:=Int.eq_ofNat_of_zero_le hz
    have hj:j<xs.length:=by omega
    have hI':=hI.out
    have hB':=hB.out
    rw[show((j:Int)+1).toNat=j+1 by omega]at hI' hB'
    have hcx:=(hn.out.cell (p:=⟨b1,o1+j,none⟩) hb1).trans (HCX.out j hj)
    have hxw:=HX.out _ (mem_getD hj)
    have hst:=hI'.step hj HX.out
    have hr:=hI'.2.2.1
    rw[repl_snoc,List.append_assoc]at hB'
    have e1:(List.replicate j 0++([0]++os)).getD j 0=0:=by simp[List.getD]
    have hcell:=hB'.cell (i:=j) (by simp)
    have hfree:=hB'.free j
    have hset:=hB'.set j ((r*BB+xs.getD j 0) / d)
    have e2:(List.replicate j 0++([0]++os)).set j ((r*BB+xs.getD j 0) / d)=List.replicate j 0++((r*BB+xs.getD j 0) / d :: os):=by simp
    rw[e1]at hcell
    rw[e2]at hset
    have hbel:=hn.out.setCell (p:=⟨w.heap.size,j,none⟩) (Nat.le_refl _) (.int .u64 (((r*BB+xs.getD j 0) / d:Nat):Int))
    have HS:=hid hset
    have HI:=hid hst
    have HBL:=hid hbel
    clear hI' hB' hst e1 e2 hset hbel hI hB hn
    generalize xs.getD j 0=x at *
    rw[BB_eq]at hxw
    have hr2:r<1000000000:=by have:=HDB.out;omega
    have hq:((r:Int)*1000000000+(x:Int)) / (d:Int)=(((r*BB+x) / d:Nat):Int):=by rw[BB_eq];rfl
    have hm:((r:Int)*1000000000+(x:Int))%(d:Int)=(((r*BB+x)%d:Nat):Int):=by rw[BB_eq];rfl
    have HQ:=hid hq
    have HM:=hid hm
    have k1:(x:Int)≤999999999:=by omega
    have k2:(r:Int)≤999999999:=by omega
    clear hq hm hxw hr hr2
    go_wp2
    go_roundw
    case rel=>exact⟨(j:Int)-1,(r*BB+x)%d,(r*BB+x) / d :: os,by omega,by omega,rfl,by rw[← HM.out],by rw[show((j:Int)-1+1).toNat=j by omega];exact HI,by rw[show((j:Int)-1+1).toNat=j by omega,HQ.out];exact HS,by rw[HQ.out];exact HBL⟩
    case measure=>simp[intOf]
  · have hz0':(z+1).toNat=0:=by omega
    have hI':=hI.out
    have hB':=hB.out
    rw[hz0']at hI' hB'
    obtain⟨g1,g2,g3,g4⟩:=hI'
    rw[List.drop_zero]at g4
    rw[List.replicate_zero,List.nil_append]at hB'
    have hown:=Blk.own hB' (Nat.le_refl _) (by unfold maxLen;omega) os.length (Nat.le_refl _)
    rw[List.take_of_length_le (Nat.le_refl _)]at hown
    have hq:wval os=wval xs / d:=by rw[g4,Nat.add_comm,Nat.add_mul_div_right _ _ HD.out,Nat.div_eq_of_lt g3,Nat.zero_add]
    have hm:r=wval xs%d:=by rw[g4,Nat.add_comm,Nat.add_mul_mod_self_right,Nat.mod_eq_of_lt g3]
    have htr:=Trim_own 110 w.heap.size _ os g2 wr hown
    rw[g1,Nat.sub_zero,hq]at htr
    have HTR:=hid htr
    have HM:=hid hm
    clear g1 g2 g3 g4 hB' hown hq htr hz0' hm
    go_wp2_with fail
    refine HTR.out.mono ?_
    rintro e w2 ⟨v',rfl,hown,rfl⟩
    go_wp2
    go_ret2
    exact⟨v',ret_pair_int (by rw[HM.out]),hown,hn.out⟩
theorem Clone_some (b o c:Nat)(xs:List Nat)(hl:xs.length≤100000)(w:World)(hb:b<w.heap.size)
 (hcx:∀ i,i<xs.length→w.cell? ⟨b,o+i,none⟩=some (.int .u64 ((xs.getD i 0:Nat):Int))) :
 Calls Tryz.prog 163 #[.slice (some ⟨b,o,none⟩) xs.length c] w fun e w'=>∃ v,e=.returned v∧Own .u64 110 w.heap.size w' v xs∧Below w.heap.size w w':=by
 obtain⟨i0,hi,hz0,hz1,hz2⟩:=info_parts Tryz.info110
 have HCX:=hid hcx
 clear hcx
 have hne:∀ W,(binOp .eql 174 (.slice (some ⟨b,o,none⟩) xs.length c) (.slice none 0 0)).run Tryz.prog W=.ok (.bool false) W:=fun W=>Lib.run_eql_slice_nil (P:=Tryz.prog) W 174 110 (some ⟨b,o,none⟩) xs.length c 0 0 Tryz.underlying174
 have hown:(w.alloc (.cells #[] 110)).ownsRow w.heap.size 110 1 (.slice (some ⟨w.heap.size,0,none⟩) 0 0) 0 []:=World.ownsRow_made w #[] 0 (Nat.le_refl _) (by unfold maxLen;omega) rfl
 have HO:=hid hown
 have hnews:∀ j u,(cls .u64 xs)[j]? = some u→(w.alloc (.cells #[] 110)).cell? ((⟨b,o,none⟩:Addr).add j)=some u:=by
  intro j u hj
  have hjl:j<xs.length:=by
   have:=(List.getElem?_eq_some_iff.1 hj).1
   rwa [cls_length]at this
  rw[Lib.add_plain,World.cell?_alloc_lt _ _ _ hb,HCX.out j hjl,← hj,cls_get hjl]
 have HN:=hid hnews
 clear hown hnews
 go_enter Tryz.func163,Tryz.ntmps163
 go_wp2_with (at_builtin;refine wpList_append_own _ rfl _ _ 174 rfl w.heap.size 110 i0 (.int .u64 0) 1 8 Tryz.underlying174 hi hz0 hz1 hz2 rfl (by decide) _ _ _ rfl HO.out ⟨b,o,none⟩ xs.length c (cls .u64 xs) rfl (by rw[cls_length,Nat.mul_one]) HN.out ?h1 (by unfold maxLen;omega) (by omega) (by simp) ?_)
 case h1=>intro u hu;obtain⟨n,_,rfl⟩:=List.mem_map.1 hu;rfl
 intro v' w1 hown' hgrow _
 have hb2:=hid (((Below.refl w.heap.size w).alloc (Nat.le_refl _) (.cells #[] 110)).grown hgrow (by simp) (fun k hk=>by cases hk;exact Nat.le_refl _))
 have HO':=hid hown'
 clear hown' hgrow hne
 go_wp2
 go_ret
 exact⟨v',rfl,HO'.out,hb2.out⟩
theorem Clone_none (w:World):Calls Tryz.prog 163 #[.slice none 0 0] w fun e w'=>e=.returned (.slice none 0 0)∧w=w':=by
 have hne:∀ W,(binOp .eql 174 (.slice none 0 0) (.slice none 0 0)).run Tryz.prog W=.ok (.bool true) W:=fun W=>Lib.run_eql_slice_nil (P:=Tryz.prog) W 174 110 none 0 0 0 0 Tryz.underlying174
 go_enter Tryz.func163,Tryz.ntmps163
 go_wp2_with fail
 go_ret
 exact⟨rfl,rfl⟩
theorem Clone_any (v:Value)(xs:List Nat)(hl:xs.length≤100000)(w:World)(h:Rd .u64 w v xs) :
 Calls Tryz.prog 163 #[v] w fun e w'=>∃ v',e=.returned v'∧Own .u64 110 w.heap.size w' v' xs∧Below w.heap.size w w':=by
 rcases h with⟨rfl,rfl⟩|⟨b,o,c,rfl,_,_,hb,hc⟩
 · exact(Clone_none w).mono fun e w' ⟨h1,h2⟩=>⟨_,h1,Own.nil _ _ _ _,h2▸Below.refl _ _⟩
 · exact Clone_some b o c xs hl w hb hc
theorem Divide_less (v1 v2:Value)(a b:Nat)(hab:a<b)(hl:(digs a).length≤100000)(w:World)(h1:Rd .u64 w v1 (digs a))(h2:Rd .u64 w v2 (digs b)) :
 Calls Tryz.prog 218 #[v1,v2] w fun e w'=>∃ r,e=.returned (.tuple #[.slice none 0 0,r])∧Own .u64 110 w.heap.size w' r (digs a)∧Below w.heap.size w w':=by
 have hless:=Less_any v1 v2 a b (by omega) w h1 h2
 rw[show decide (a<b)=true by simpa using hab]at hless
 have HL:=hid hless
 have H1:=hid h1
 have Hl:=hid hl
 clear hless h1 h2 hab hl
 go_enter Tryz.func218,Tryz.ntmps218
 go_wp2_with fail
 refine HL.out.mono ?_
 rintro e w1 ⟨rfl,hb1⟩
 have hcl:=hid (Clone_any v1 (digs a) Hl.out w1 (H1.out.below hb1))
 have HB1:=hid hb1
 clear hb1
 go_wp2_with fail
 refine hcl.out.mono ?_
 rintro e w2 ⟨r,rfl,hown,hb2⟩
 have HO:=hid (hown.mono HB1.out.size)
 have HB2:=hbt HB1 hb2
 clear hown hb2
 go_wp2
 go_ret2
 exact⟨r,rfl,HO.out,HB2.out⟩
theorem digs_small (r:Nat):digs (wval [r])=digs r:=by simp[wval]
theorem Divide_word (v1 v2:Value)(a b:Nat)(hab:¬ a<b)(hlb:(digs b).length=1)(hl:(digs a).length≤100000)(w:World)(h1:Rd .u64 w v1 (digs a))(h2:Rd .u64 w v2 (digs b)) :
 Calls Tryz.prog 218 #[v1,v2] w fun e w'=>∃ q r,e=.returned (.tuple #[q,r])∧Own .u64 110 w.heap.size w' q (digs (a / b))∧Own .u64 110 w.heap.size w' r (digs (a%b))∧Below w.heap.size w w':=by
 have hb0:b≠0:=by intro h;rw[h,digs_zero]at hlb;simp at hlb
 have hbB:b<BB:=by have:=lt_pow_digs b;rwa [hlb,Nat.pow_one]at this
 have hdb:(digs b).getD 0 0=b:=by
  have:=wval_digs b
  rw[digs_pos hb0]at hlb ⊢
  have e:digs (b / BB)=[]:=List.length_eq_zero_iff.1 (by simpa using hlb)
  simp[Nat.mod_eq_of_lt hbB]
 have hless:=Less_any v1 v2 a b (by omega) w h1 h2
 rw[show decide (a<b)=false by simpa using hab]at hless
 have ha0:a≠0:=by omega
 obtain⟨b1,o1,c1,rfl,_,_,k1,r1⟩:=rd_pos h1 (List.length_pos_iff.2 (by rw[digs_pos ha0];simp))
 obtain⟨b2,o2,c2,rfl,_,_,k2,r2⟩:=rd_pos h2 (by omega)
 have r20:=r2 0 (by omega)
 rw[hdb,Nat.add_zero]at r20
 rw[hlb]at hless ⊢
 have HL:=hid hless
 have HR1:=hid r1
 have HR20:=hid r20
 have Hl:=hid hl
 have Hb0:=hid (show 0<b by omega)
 have HbB:=hid hbB
 clear hless h1 h2 hab hl r1 r2 r20 hdb hlb hb0 hbB ha0
 go_enter Tryz.func218,Tryz.ntmps218
 go_wp2_with fail
 refine HL.out.mono ?_
 rintro e w1 ⟨rfl,hb1⟩
 have hc20:=(hb1.cell (p:=⟨b2,o2,none⟩) k2).trans HR20.out
 have hdw:=hid (divW_some b1 o1 c1 (digs a) b Hb0.out (by have:=BB_eq;have:=HbB.out;omega) (digs_lt a) Hl.out w1 (Nat.lt_of_lt_of_le k1 hb1.size) (fun i hi=>(hb1.cell (p:=⟨b1,o1+i,none⟩) k1).trans (HR1.out i hi)))
 have HB1:=hid hb1
 clear hb1
 go_wp2_with fail
 refine hdw.out.mono ?_
 rintro e w2 ⟨q,rfl,hown,hb2⟩
 rw[wval_digs]at hown ⊢
 have HO:=hid (hown.mono HB1.out.size)
 have HB2:=hbt HB1 hb2
 clear hown hb2 hc20 hdw HL
 have hrB:a%b<BB:=Nat.lt_trans (Nat.mod_lt _ Hb0.out) HbB.out
 have hblk:Blk (w2.alloc (.cells #[.int .u64 ((a:Int)%(b:Int))] 110)) w2.heap.size [a%b]:=Blk.alloc [a%b] _ (by simp[cls])
 have hown2:=hblk.own (B:=w.heap.size) HB2.out.size (by unfold maxLen;simp) 1 (by simp)
 have htr:=Trim_own 110 w.heap.size _ [a%b] (by intro x hx;have:=List.mem_singleton.1 hx;omega) (w2.alloc (.cells #[.int .u64 ((a:Int)%(b:Int))] 110)) hown2
 rw[digs_small]at htr
 have HTR:=hid htr
 have HO2:=hid (HO.out.below ((Below.refl w2.heap.size w2).alloc (Nat.le_refl _) (.cells #[.int .u64 ((a:Int)%(b:Int))] 110)))
 have HB3:=hid (HB2.out.alloc HB2.out.size (.cells #[.int .u64 ((a:Int)%(b:Int))] 110))
 clear hrB hblk hown2 htr
 go_wp2_with fail
 refine HTR.out.mono ?_
 rintro e w3 ⟨r,rfl,hr,rfl⟩
 go_wp2
 go_ret2
 exact⟨q,r,rfl,HO2.out,hr,HB3.out⟩
end Go.Proofs.YthjmjlfnpnbonaaGreatDoor
set_option maxRecDepth 100000
set_option maxHeartbeats 20000000
open Go.Lib (hid)
namespace Go.Proofs.YthjmjlfnpnbonaaGreatDoor
open Go.RowKit Go.Gb
theorem car_alloc (w:World):Car (w.alloc (.cells #[.int .u64 0] 270)) w.heap.size 0:=by unfold Car;rw[heap_alloc_new];rfl
theorem digs_len_str {l:List UInt8}(h:l.all isD=true)(k:Nat)(hl:l.length≤9*k):(digs (dval l)).length≤k:=by
 refine digs_length_le (Nat.lt_of_lt_of_le (dval_lt l h) ?_)
 rw[show BB=10^9 from by rw[BB_eq],← Nat.pow_mul]
 exact Nat.pow_le_pow_right (by decide) hl
theorem subtract_any (v1 v2:Value)(a b:Nat)(hab:b≤a)(ha:a≠0)(hl:(digs a).length≤100000)(w:World)(h1:Rd .u64 w v1 (digs a))(h2:Rd .u64 w v2 (digs b)) :
 Calls Tryz.prog 242 #[v1,v2] w fun e w'=>∃ v,e=.returned v∧Own .u64 110 w.heap.size w' v (digs (a-b))∧Below w.heap.size w w':=by
 obtain⟨b1,o1,c1,rfl,_,_,k1,r1⟩:=rd_pos h1 (List.length_pos_iff.2 (by rw[digs_pos ha];simp))
 have hb0:=(Below.refl w.heap.size w).alloc (Nat.le_refl _) (.cells #[.int .u64 0] 270)
 have hj:Calls Tryz.prog 249 #[.slice (some ⟨b1,o1,none⟩) (digs a).length c1,v2,.func (.func 250) #[.pointer (some ⟨w.heap.size,0,none⟩)] #[]] (w.alloc (.cells #[.int .u64 0] 270)) fun e w' =>
  e=.returned (.slice (some ⟨w.heap.size+1,0,none⟩) (digs a).length ((digs a).length+1))∧∃ (os:List Nat) (c:Nat),DifInv (digs a) (digs b) os (digs a).length c∧Blk w' (w.heap.size+1) (os++[0])∧Car w' w.heap.size c∧(w.alloc (.cells #[.int .u64 0] 270)).grownBy w' (some w.heap.size):=by
  have hcx:∀ i,i<(digs a).length→(w.alloc (.cells #[.int .u64 0] 270)).cell? ⟨b1,o1+i,none⟩=some (.int .u64 (((digs a).getD i 0:Nat):Int)):=fun i hi=>(hb0.cell (p:=⟨b1,o1+i,none⟩) k1).trans (r1 i hi)
  have hz:(w.alloc (.cells #[.int .u64 0] 270)).heap.size=w.heap.size+1:=by simp
  rcases h2 with⟨rfl,h2⟩|⟨b2,o2,c2,rfl,_,_,k2,r2⟩
  · have:=join_minus_nil DifInv w.heap.size b1 o1 c1 none 0 (digs a) (digs b) hl (w.alloc (.cells #[.int .u64 0] 270)) (minus_ok _ _ _ (digs_lt a) (digs_lt b)) (DifInv.start _ _) (fun os i c h=>h.1) (car_alloc w) (by rw[hz];omega) (by omega) hcx (by rw[h2];simp)
    rw[hz,h2]at this
    rw[h2]
    exact this
  · have:=join_minus_some DifInv w.heap.size b1 o1 c1 b2 o2 c2 (digs a) (digs b) hl (w.alloc (.cells #[.int .u64 0] 270)) (minus_ok _ _ _ (digs_lt a) (digs_lt b)) (DifInv.start _ _) (fun os i c h=>h.1) (car_alloc w) (by rw[hz];omega) (by omega) hcx (by rw[hz];omega) (by omega) (fun i hi=>(hb0.cell (p:=⟨b2,o2+i,none⟩) k2).trans (r2 i hi))
    rw[hz]at this
    exact this
 have HJ:=hid hj
 have HAB:=hid hab
 have HL:=hid hl
 clear hj h1 h2 r1 hb0 hab ha hl
 go_enter Tryz.func242,Tryz.ntmps242
 go_wp2_with fail
 refine HJ.out.mono ?_
 rintro e w1 ⟨rfl,os,c,hd,hblk,_,hg⟩
 obtain⟨g1,g2⟩:=hd.done (digs_length_mono HAB.out) (by rw[wval_digs,wval_digs];exact HAB.out)
 rw[wval_digs,wval_digs]at g1
 have hlen:=hd.1
 have hown:=hblk.own (B:=w.heap.size) (by omega) (by have:=HL.out;unfold maxLen;simp;omega) os.length (by simp)
 rw[List.take_left,hlen,List.length_append,List.length_singleton,hlen]at hown
 have htr:=Trim_own 110 w.heap.size _ os g2 w1 hown
 rw[g1]at htr
 have HTR:=hid htr
 have HB:=hid (((Below.refl w.heap.size w).alloc (Nat.le_refl _) (.cells #[.int .u64 0] 270)).grown hg (by simp) (fun k hk=>by cases hk;exact Nat.le_refl _))
 clear hd hblk hg g1 g2 hown htr hlen
 go_wp2_with fail
 refine HTR.out.mono ?_
 rintro e w2 ⟨v,rfl,hown,rfl⟩
 go_wp2
 go_ret
 exact⟨v,rfl,hown,HB.out⟩
theorem write_int (u:Int)(h0:0≤u)(h1:u<18446744073709551616)(w:World)(htab:Tb w) :
 CR 225 #[.int .u64 u] w (.string ⟨(Lib.decDigits u.toNat).toArray⟩):=by
 obtain⟨n,rfl⟩:=Int.eq_ofNat_of_zero_le h0
 exact write_any n (by omega) w htab
theorem digs_mul_len (a b:Nat):(digs (a*b)).length≤(digs a).length+(digs b).length:=by
 refine digs_length_le ?_
 rw[Nat.pow_add]
 rcases Nat.eq_zero_or_pos b with h|h
 · rw[h,Nat.mul_zero];exact Nat.mul_pos (Nat.pow_pos BB_pos) (Nat.pow_pos BB_pos)
 · exact Nat.mul_lt_mul_of_lt_of_le (lt_pow_digs a) (Nat.le_of_lt (lt_pow_digs b)) (Nat.pow_pos BB_pos)
def St (l:List UInt8):Value:=.string ⟨l.toArray⟩
theorem all_of_vld {l:List UInt8}(h:vld l=true):l.all isD=true:=((vld_iff l).1 h).2.1
theorem dval19 {s:ByteArray}(h:vld s.data.toList=true)(hl:s.size≤18):dval s.data.toList<1000000000000000000:=by
 have h1:=dval_lt _ (all_of_vld h)
 have h2:10^s.data.toList.length≤10^18:=Nat.pow_le_pow_right (by decide) (by rw[size_list];exact hl)
 omega
theorem dval20 {s:ByteArray}(h:vld s.data.toList=true)(hl:s.size≤19):dval s.data.toList<10000000000000000000:=by
 have h1:=dval_lt _ (all_of_vld h)
 have h2:10^s.data.toList.length≤10^19:=Nat.pow_le_pow_right (by decide) (by rw[size_list];exact hl)
 omega
theorem Add_short (a b:ByteArray)(ha:vld a.data.toList=true)(hb:vld b.data.toList=true)(hla:a.size≤18)(hlb:b.size≤18)(w:World)(htab:Tb w) :
 CR 229 #[.string a,.string b] w (.tuple #[St (Lib.decDigits (dval a.data.toList+dval b.data.toList)),.int .i64 0]):=by
 have HA:=hid ha
 have HB:=hid hb
 have HT:=hid htab
 have Hla:=hid (show a.size≤maxLen by unfold maxLen;omega)
 have Hlb:=hid (show b.size≤maxLen by unfold maxLen;omega)
 have hba:=dval19 ha hla
 have hbb:=dval19 hb hlb
 have HBA:=hid hba
 have HBB:=hid hbb
 clear ha hb htab hba hbb
 go_enter Tryz.func229,Tryz.ntmps229
 go_wp2_with fail
 refine(Valid_yes a HA.out Hla.out _).mono ?_
 rintro e w' ⟨rfl,rfl⟩
 go_wp2_with fail
 refine(Valid_yes b HB.out Hlb.out _).mono ?_
 rintro e w' ⟨rfl,rfl⟩
 go_wp2_with fail
 refine(read_any a HA.out (by omega) _).mono ?_
 rintro e w1 ⟨rfl,hb1⟩
 have HB1:=hid hb1
 clear hb1
 go_wp2_with fail
 refine(read_any b HB.out (by omega) _).mono ?_
 rintro e w2 ⟨rfl,hb2⟩
 have HB2:=hbt HB1 hb2
 clear hb2
 generalize hxx:dval a.data.toList=x at *
 generalize hyy:dval b.data.toList=y at *
 have HXX:=hid hxx
 have HYY:=hid hyy
 clear hxx hyy
 have hx:=HBA.out
 have hy:=HBB.out
 have hsum:IntKind.u64.wrap ((x:Int)+(y:Int))=(x:Int)+(y:Int):=IntWalk.u64_in _ (by omega)
 have hwr:=hid (write_int ((x:Int)+(y:Int)) (by omega) (by omega) w2 (HT.out.on HB2.out))
 clear hx hy
 go_wp2_with fail
 refine hwr.out.mono ?_
 rintro e w3 ⟨rfl,hb3⟩
 rw[show((x:Int)+(y:Int)).toNat=x+y by omega]
 have HB3:=hbt HB2 hb3
 clear hb3 hsum
 go_wp2
 go_ret2
 refine⟨?_,HB3.out⟩
 rw[HXX.out,HYY.out]
 rfl
theorem both_no {a b:ByteArray}(h:(vld a.data.toList&&vld b.data.toList)=false):vld a.data.toList=false∨(vld a.data.toList=true∧vld b.data.toList=false):=by
 cases ha:vld a.data.toList with
 | false=>exact Or.inl rfl
 | true=>right;rw[ha]at h;exact⟨rfl,by simpa using h⟩
theorem Mul_yes (a b:ByteArray)(ha:vld a.data.toList=true)(hb:vld b.data.toList=true)(hla:a.size≤100000)(hlb:b.size≤100000)(w:World)(htab:Tb w) :
 CR 200 #[.string a,.string b] w (.tuple #[St (Lib.decDigits (dval a.data.toList*dval b.data.toList)),.int .i64 0]):=by
 have HA:=hid ha
 have HB:=hid hb
 have HT:=hid htab
 have Hla:=hid (show a.size≤maxLen by unfold maxLen;omega)
 have Hlb:=hid (show b.size≤maxLen by unfold maxLen;omega)
 have hda:=hid (digs_len_str (all_of_vld ha) 100000 (by rw[size_list];omega))
 have hdb:=hid (digs_len_str (all_of_vld hb) 100000 (by rw[size_list];omega))
 by_cases hs:a.size+b.size≤19
 · have h1:=dval_lt _ (all_of_vld ha)
   have h2:=dval_lt _ (all_of_vld hb)
   have h3:dval a.data.toList*dval b.data.toList<10000000000000000000:=by
    have h4:dval a.data.toList*dval b.data.toList≤dval a.data.toList*10^b.data.toList.length:=Nat.mul_le_mul_left _ (Nat.le_of_lt h2)
    have h5:dval a.data.toList*10^b.data.toList.length<10^a.data.toList.length*10^b.data.toList.length:=Nat.mul_lt_mul_of_pos_right h1 (Nat.pow_pos (by decide))
    rw[← Nat.pow_add]at h5
    have h6:10^(a.data.toList.length+b.data.toList.length)≤10^19:=Nat.pow_le_pow_right (by decide) (by rw[size_list,size_list];exact hs)
    omega
   have H3:=hid h3
   clear ha hb htab h1 h2 h3
   go_enter Tryz.func200,Tryz.ntmps200
   go_wp2_with fail
   refine(Valid_yes a HA.out Hla.out _).mono ?_
   rintro e w' ⟨rfl,rfl⟩
   go_wp2_with fail
   refine(Valid_yes b HB.out Hlb.out _).mono ?_
   rintro e w' ⟨rfl,rfl⟩
   go_wp2_with fail
   refine(read_any a HA.out (by omega) _).mono ?_
   rintro e w1 ⟨rfl,hb1⟩
   have HB1:=hid hb1
   clear hb1
   go_wp2_with fail
   refine(read_any b HB.out (by omega) _).mono ?_
   rintro e w2 ⟨rfl,hb2⟩
   have HB2:=hbt HB1 hb2
   clear hb2
   generalize hxx:dval a.data.toList=x at *
   generalize hyy:dval b.data.toList=y at *
   have HXX:=hid hxx
   have HYY:=hid hyy
   clear hxx hyy
   obtain⟨p,hp⟩:∃ p:Nat,p=x*y:=⟨_,rfl⟩
   have hpi:(x:Int)*(y:Int)=(p:Int):=by rw[hp];exact(Int.natCast_mul _ _).symm
   have hpb:=H3.out
   rw[← hp]at hpb
   have hw1:IntKind.u64.wrap (p:Int)=(p:Int):=IntWalk.u64_in _ (by omega)
   have hwr:=hid (write_int (p:Int) (by omega) (by omega) w2 (HT.out.on HB2.out))
   have HP:=hid hp
   clear hpb hp
   go_wp2_with fail
   refine hwr.out.mono ?_
   rintro e w3 ⟨rfl,hb3⟩
   rw[Int.toNat_natCast,HP.out]
   have HB3:=hbt HB2 hb3
   clear hb3 hw1 hpi
   go_wp2
   go_ret2
   refine⟨?_,HB3.out⟩
   rw[HXX.out,HYY.out]
   rfl
 · have hra:=hid (all_of_vld ha)
   have hrb:=hid (all_of_vld hb)
   have hlp:(digs (dval a.data.toList*dval b.data.toList)).length≤100000:=by
    have g1:=digs_len_str (all_of_vld ha) 20000 (by rw[size_list];omega)
    have g2:=digs_len_str (all_of_vld hb) 20000 (by rw[size_list];omega)
    have g3:=digs_mul_len (dval a.data.toList) (dval b.data.toList)
    omega
   have HLP:=hid hlp
   clear ha hb htab hlp
   go_enter Tryz.func200,Tryz.ntmps200
   go_wp2_with fail
   refine(Valid_yes a HA.out Hla.out _).mono ?_
   rintro e w' ⟨rfl,rfl⟩
   go_wp2_with fail
   refine(Valid_yes b HB.out Hlb.out _).mono ?_
   rintro e w' ⟨rfl,rfl⟩
   go_wp2_with fail
   refine(Read_any a hra.out hla _).mono ?_
   rintro e w1 ⟨v1,rfl,ho1,hb1⟩
   have HB1:=hid hb1
   have HO1:=hid ho1
   clear hb1 ho1
   go_wp2_with fail
   refine(Read_any b hrb.out hlb _).mono ?_
   rintro e w2 ⟨v2,rfl,ho2,hb2⟩
   have HB2:=hbt HB1 hb2
   have hm:=hid (Multiply_any v1 v2 _ _ hda.out hdb.out w2 (HO1.out.rd.below hb2) ho2.rd)
   clear hb2 ho2
   go_wp2_with fail
   refine hm.out.mono ?_
   rintro e w3 ⟨v3,rfl,ho3,hb3⟩
   have HB3:=hbt HB2 hb3
   have hwr:=hid (Write_any v3 _ HLP.out w3 ho3.rd (HT.out.on HB3.out))
   clear hb3 ho3
   go_wp2_with fail
   refine hwr.out.mono ?_
   rintro e w4 ⟨rfl,hb4⟩
   have HB4:=hbt HB3 hb4
   clear hb4
   go_wp2
   go_ret2
   exact⟨rfl,HB4.out⟩
theorem Sub_yes (a b:ByteArray)(ha:vld a.data.toList=true)(hb:vld b.data.toList=true)(hab:dval b.data.toList≤dval a.data.toList)(hla:a.size≤100000)(hlb:b.size≤100000)(w:World)(htab:Tb w) :
 CR 228 #[.string a,.string b] w (.tuple #[St (Lib.decDigits (dval a.data.toList-dval b.data.toList)),.int .i64 0]):=by
 have HA:=hid ha
 have HB:=hid hb
 have HT:=hid htab
 have Hla:=hid (show a.size≤maxLen by unfold maxLen;omega)
 have Hlb:=hid (show b.size≤maxLen by unfold maxLen;omega)
 have hda:=hid (digs_len_str (all_of_vld ha) 100000 (by rw[size_list];omega))
 have hlen:b.size≤a.size:=by
  rcases Nat.lt_or_ge a.size b.size with h|h
  · have:=dval_lt_of_len ha hb (by rw[size_list,size_list];exact h)
    omega
  · exact h
 have hcmp:=hid (compare_num a b ha hb)
 have hc0:¬ cmpN (dval a.data.toList) (dval b.data.toList)<0:=by unfold cmpN;split<;>(try split)<;>omega
 by_cases hs:a.size≤19
 · have h1:=hid (dval20 ha hs)
   have HAB:=hid hab
   clear ha hb htab hab
   go_enter Tryz.func228,Tryz.ntmps228
   go_wp2_with fail
   refine(Valid_yes a HA.out Hla.out _).mono ?_
   rintro e w' ⟨rfl,rfl⟩
   go_wp2_with fail
   refine(Valid_yes b HB.out Hlb.out _).mono ?_
   rintro e w' ⟨rfl,rfl⟩
   go_wp2_with fail
   refine(hcmp.out _).mono ?_
   rintro e w' ⟨rfl,rfl⟩
   generalize cmpN (dval a.data.toList) (dval b.data.toList)=cc at *
   go_wp2_with fail
   refine(read_any a HA.out (by omega) _).mono ?_
   rintro e w1 ⟨rfl,hb1⟩
   have HB1:=hid hb1
   clear hb1
   go_wp2_with fail
   refine(read_any b HB.out (by omega) _).mono ?_
   rintro e w2 ⟨rfl,hb2⟩
   have HB2:=hbt HB1 hb2
   clear hb2
   generalize hxx:dval a.data.toList=x at *
   generalize hyy:dval b.data.toList=y at *
   have HXX:=hid hxx
   have HYY:=hid hyy
   clear hxx hyy
   have hxy:=HAB.out
   have hx:=h1.out
   have hw1:IntKind.u64.wrap ((x:Int)-(y:Int))=(x:Int)-(y:Int):=IntWalk.u64_in _ (by omega)
   have hwr:=hid (write_int ((x:Int)-(y:Int)) (by omega) (by omega) w2 (HT.out.on HB2.out))
   clear hx hxy
   go_wp2_with fail
   refine hwr.out.mono ?_
   rintro e w3 ⟨rfl,hb3⟩
   rw[show((x:Int)-(y:Int)).toNat=x-y by have:=HAB.out;omega]
   have HB3:=hbt HB2 hb3
   clear hb3 hw1
   go_wp2
   go_ret2
   refine⟨?_,HB3.out⟩
   rw[HXX.out,HYY.out]
   rfl
 · have hra:=hid (all_of_vld ha)
   have hrb:=hid (all_of_vld hb)
   have hne:dval a.data.toList≠0:=by
    intro h0
    have:=dec_dval _ ha
    rw[h0,Lib.decDigits_one (by decide)]at this
    have h9:a.data.toList.length=1:=by rw[← this];rfl
    rw[size_list]at h9
    omega
   have HNE:=hid hne
   have hlp:=hid (show(digs (dval a.data.toList-dval b.data.toList)).length≤100000 from Nat.le_trans (digs_length_mono (Nat.sub_le _ _)) hda.out)
   have HAB:=hid hab
   clear ha hb htab hab hne
   go_enter Tryz.func228,Tryz.ntmps228
   go_wp2_with fail
   refine(Valid_yes a HA.out Hla.out _).mono ?_
   rintro e w' ⟨rfl,rfl⟩
   go_wp2_with fail
   refine(Valid_yes b HB.out Hlb.out _).mono ?_
   rintro e w' ⟨rfl,rfl⟩
   go_wp2_with fail
   refine(hcmp.out _).mono ?_
   rintro e w' ⟨rfl,rfl⟩
   generalize cmpN (dval a.data.toList) (dval b.data.toList)=cc at *
   go_wp2_with fail
   refine(Read_any a hra.out hla _).mono ?_
   rintro e w1 ⟨v1,rfl,ho1,hb1⟩
   have HB1:=hid hb1
   have HO1:=hid ho1
   clear hb1 ho1
   go_wp2_with fail
   refine(Read_any b hrb.out hlb _).mono ?_
   rintro e w2 ⟨v2,rfl,ho2,hb2⟩
   have HB2:=hbt HB1 hb2
   have hm:=hid (subtract_any v1 v2 _ _ HAB.out HNE.out hda.out w2 (HO1.out.rd.below hb2) ho2.rd)
   clear hb2 ho2
   go_wp2_with fail
   refine hm.out.mono ?_
   rintro e w3 ⟨v3,rfl,ho3,hb3⟩
   have HB3:=hbt HB2 hb3
   have hwr:=hid (Write_any v3 _ hlp.out w3 ho3.rd (HT.out.on HB3.out))
   clear hb3 ho3
   go_wp2_with fail
   refine hwr.out.mono ?_
   rintro e w4 ⟨rfl,hb4⟩
   have HB4:=hbt HB3 hb4
   clear hb4
   go_wp2
   go_ret2
   exact⟨rfl,HB4.out⟩
end Go.Proofs.YthjmjlfnpnbonaaGreatDoor
