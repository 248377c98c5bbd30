/- Texts of this proof, one behind the other. -/
import Derived.Test.YtmigpoiajkihhaaGreatDoorQm
set_option maxRecDepth 100000
set_option maxHeartbeats 20000000
open Go.Lib (hid)
namespace Go.Proofs.YtmigpoiajkihhaaGreatDoor
open Go.RowKit Go.Gb
theorem q_1_2:Sq (1/2:Rat)=⟨#[49,47,50]⟩:=by decide +kernel
theorem q_1_3:Sq (1/3:Rat)=⟨#[49,47,51]⟩:=by decide +kernel
theorem q_5_6:Sq (5/6:Rat)=⟨#[53,47,54]⟩:=by decide +kernel
theorem q_3_4:Sq (3/4:Rat)=⟨#[51,47,52]⟩:=by decide +kernel
theorem q_n3_2:Sq (-3/2:Rat)=⟨#[45,51,47,50]⟩:=by decide +kernel
theorem q_n1_2:Sq (-1/2:Rat)=⟨#[45,49,47,50]⟩:=by decide +kernel
theorem q_2_3:Sq (2/3:Rat)=⟨#[50,47,51]⟩:=by decide +kernel
theorem q_3_2:Sq (3/2:Rat)=⟨#[51,47,50]⟩:=by decide +kernel
theorem q_0:Sq (0:Rat)=⟨#[48]⟩:=by decide +kernel
theorem q_1:Sq (1:Rat)=⟨#[49]⟩:=by decide +kernel
theorem q_n3_4:Sq (-3/4:Rat)=⟨#[45,51,47,52]⟩:=by decide +kernel
theorem q_5_2:Sq (5/2:Rat)=⟨#[53,47,50]⟩:=by decide +kernel
theorem q_n2_3:Sq (-2/3:Rat)=⟨#[45,50,47,51]⟩:=by decide +kernel
theorem qx_add (w:World)(hl:La w):CR 17 #[.string ⟨#[49,47,50]⟩,.string ⟨#[49,47,51]⟩] w (.tuple #[.string ⟨#[53,47,54]⟩,.int .i64 0]):=by
 have h:=qAddS (1/2:Rat) (1/3:Rat) (5/6:Rat) (by decide +kernel) (fitq_small (by decide +kernel) (by decide +kernel)) (fitq_small (by decide +kernel) (by decide +kernel)) (by unfold Sma;decide +kernel) w hl
 rw[q_1_2,q_1_3,q_5_6]at h
 exact h
theorem qx_sub (w:World)(hl:La w):CR 19 #[.string ⟨#[49,47,50]⟩,.string ⟨#[49,47,50]⟩] w (.tuple #[.string ⟨#[48]⟩,.int .i64 0]):=by
 have h:=qSubS (1/2:Rat) (1/2:Rat) (0:Rat) (by decide +kernel) (fitq_small (by decide +kernel) (by decide +kernel)) (fitq_small (by decide +kernel) (by decide +kernel)) (by unfold Sma;decide +kernel) w hl
 rw[q_1_2,q_0]at h
 exact h
theorem qx_mul (w:World)(hl:La w):CR 21 #[.string ⟨#[50,47,51]⟩,.string ⟨#[51,47,50]⟩] w (.tuple #[.string ⟨#[49]⟩,.int .i64 0]):=by
 have h:=qMulS (2/3:Rat) (3/2:Rat) (1:Rat) (by decide +kernel) (fitq_small (by decide +kernel) (by decide +kernel)) (fitq_small (by decide +kernel) (by decide +kernel)) (by unfold Sma;decide +kernel) w hl
 rw[q_2_3,q_3_2,q_1]at h
 exact h
theorem qx_div (w:World)(hl:La w):CR 23 #[.string ⟨#[51,47,52]⟩,.string ⟨#[45,51,47,50]⟩] w (.tuple #[.string ⟨#[45,49,47,50]⟩,.int .i64 0]):=by
 have h:=qDivS (3/4:Rat) (-3/2:Rat) (-1/2:Rat) (by decide +kernel) (fitq_small (by decide +kernel) (by decide +kernel)) (fitq_small (by decide +kernel) (by decide +kernel)) (by decide +kernel) (by unfold Sma;decide +kernel) w hl
 rw[q_3_4,q_n3_2,q_n1_2]at h
 exact h
theorem qx_cmp (w:World)(hl:La w):CR 15 #[.string ⟨#[49,47,51]⟩,.string ⟨#[49,47,50]⟩] w (.tuple #[.int .i64 (-1),.int .i64 0]):=by
 have h:=qCompareS (1/3:Rat) (1/2:Rat) (-1) (by decide +kernel) (fitq_small (by decide +kernel) (by decide +kernel)) (fitq_small (by decide +kernel) (by decide +kernel)) (by unfold Sma;decide +kernel) w hl
 rw[q_1_3,q_1_2]at h
 exact h
theorem qx_floor (w:World)(hl:La w):CR 25 #[.string ⟨#[45,49,47,50]⟩] w (.tuple #[.string ⟨#[45,49]⟩,.int .i64 0]):=by
 have h:=qfloor (-1/2:Rat) (fitq_small (by decide +kernel) (by decide +kernel)) w hl
 rw[q_n1_2,show Sz (((-1/2:Rat)).num / (((-1/2:Rat)).den:Int))=⟨#[45,49]⟩by decide +kernel]at h
 exact h
theorem qx_parts (w:World)(hl:La w):CR 11 #[.string ⟨#[45,51,47,50]⟩] w (.tuple #[.string ⟨#[45,51]⟩,.string ⟨#[50]⟩,.int .i64 0]):=by
 have h:=qparts (-3/2:Rat) (fitq_small (by decide +kernel) (by decide +kernel)) w hl
 rw[q_n3_2,show Sz ((-3/2:Rat)).num=⟨#[45,51]⟩by decide +kernel,show Sz (((-3/2:Rat)).den:Int)=⟨#[50]⟩by decide +kernel]at h
 exact h
theorem qx_make (w:World)(hl:La w):CR 9 #[.string ⟨#[54]⟩,.string ⟨#[45,52]⟩] w (.tuple #[.string ⟨#[45,51,47,50]⟩,.int .i64 0]):=by
 have h:=qMake 6 (-4) (by decide) (flS (by decide)) (flS (by decide)) w hl
 rw[show Sz 6=⟨#[54]⟩by decide +kernel,show Sz (-4)=⟨#[45,52]⟩by decide +kernel,show Sq (Rat.divInt 6 (-4))=⟨#[45,51,47,50]⟩by decide +kernel]at h
 exact h
theorem qx_v1 (w:World)(hl:La w):CR 13 #[.string ⟨#[45,51,47,52]⟩] w (.bool true):=by
 have h:=qvalid_yes (-3/4:Rat) (fitq_small (by decide +kernel) (by decide +kernel)) w hl
 rw[q_n3_4]at h
 exact h
theorem qx_v2 (w:World)(hl:La w):CR 13 #[.string ⟨#[50,47,52]⟩] w (.bool false):=qvalid_no _ (by decide +kernel) (by decide) w hl
theorem qx_v3 (w:World)(hl:La w):CR 13 #[.string ⟨#[]⟩] w (.bool false):=qvalid_no _ (by decide +kernel) (by decide) w hl
theorem qx_dec1 (w:World)(hl:La w):CR 27 #[.string ⟨#[45,50,47,51]⟩,.int .i64 2] w (.tuple #[.string ⟨#[45,48,46,54,55]⟩,.int .i64 0]):=by
 have h1:=fun W hW=>fread_yes (-2/3) (fitq_small (by decide +kernel) (by decide +kernel)) W hW
 rw[q_n2_3,(qnd (-2/3) (-2) 3 ⟨#[45,50,47,51]⟩ ⟨#[45,50]⟩ ⟨#[51]⟩ (by decide +kernel)).2]at h1
 have h2:=fun W=>rpow10 2 (by decide) W
 rw[show Sz ((10^2:Nat):Int)=⟨#[49,48,48]⟩by decide +kernel]at h2
 have h3:=fun W hW=>rtimes (-2) 100 (-200) (by decide) (flT (by decide)) (flT (by decide)) (flT (by decide)) W hW
 rw[show Sz (-2)=⟨#[45,50]⟩by decide +kernel,show Sz 100=⟨#[49,48,48]⟩by decide +kernel,show Sz (-200)=⟨#[45,50,48,48]⟩by decide +kernel]at h3
 have h4:=fun W hW=>rnearest (-200) 3 (by decide) ((show Sm 3 200 by unfold Sm;decide).mono (by decide)) ((show Sm 3 3 by unfold Sm;decide).mono (by decide)) W hW
 rw[show Sz (nearZ (-200) 3)=⟨#[45,54,55]⟩by decide +kernel,show Sz 3=⟨#[51]⟩by decide +kernel,show Sz (-200)=⟨#[45,50,48,48]⟩by decide +kernel]at h4
 have h5:=fun W=>place_neg ⟨#[45,54,55]⟩ ⟨#[54,55]⟩ 2 (by decide) (by decide) (by decide) W (fun W=>cut_neg [54,55] W)
 rw[show(⟨#[45]⟩++pointB (⟨#[54,55]⟩:ByteArray).data.toList 2:ByteArray)=⟨#[45,48,46,54,55]⟩by decide +kernel]at h5
 exact decimal_raw _ _ _ _ _ _ _ 2 (by decide) (by decide) w hl h1 h2 h3 h4 h5
theorem qx_dec2 (w:World)(hl:La w):CR 27 #[.string ⟨#[53,47,50]⟩,.int .i64 0] w (.tuple #[.string ⟨#[51]⟩,.int .i64 0]):=by
 have h1:=fun W hW=>fread_yes (5/2) (fitq_small (by decide +kernel) (by decide +kernel)) W hW
 rw[q_5_2,(qnd (5/2) 5 2 ⟨#[53,47,50]⟩ ⟨#[53]⟩ ⟨#[50]⟩ (by decide +kernel)).2]at h1
 have h2:=fun W=>rpow10 0 (by decide) W
 rw[show Sz ((10^0:Nat):Int)=⟨#[49]⟩by decide +kernel]at h2
 have h3:=fun W hW=>rtimes 5 1 5 (by decide) (flT (by decide)) (flT (by decide)) (flT (by decide)) W hW
 rw[show Sz 5=⟨#[53]⟩by decide +kernel,show Sz 1=⟨#[49]⟩by decide +kernel]at h3
 have h4:=fun W hW=>rnearest 5 2 (by decide) ((show Sm 3 5 by unfold Sm;decide).mono (by decide)) ((show Sm 3 2 by unfold Sm;decide).mono (by decide)) W hW
 rw[show Sz (nearZ 5 2)=⟨#[51]⟩by decide +kernel,show Sz 5=⟨#[53]⟩by decide +kernel,show Sz 2=⟨#[50]⟩by decide +kernel]at h4
 exact decimal_raw _ _ _ _ _ _ _ 0 (by decide) (by decide) w hl h1 h2 h3 h4 (fun W=>place_zero _ W)
theorem calls_same {P:Program}{f:Nat}{args:Array Value}{W:World}{r:Value}(h:Calls P f args W fun e w'=>e=.returned r∧W=w'):Calls P f args W fun e w'=>e=.returned r∧Below W.heap.size W w' :=
 h.mono (fun _ _ ⟨h1,h2⟩=>⟨h1,h2▸Below.refl _ _⟩)
theorem calls_same' {P:Program}{f:Nat}{args:Array Value}{W:World}{r:Value}(h:Calls P f args W fun e w'=>e=.returned r∧w'=W):Calls P f args W fun e w'=>e=.returned r∧Below W.heap.size W w' :=
 h.mono (fun _ _ ⟨h1,h2⟩=>⟨h1,h2▸Below.refl _ _⟩)
theorem qx_parse (w:World)(hl:La w):CR 29 #[.string ⟨#[48,46,50,53,48]⟩] w (.tuple #[.string ⟨#[49,47,52]⟩,.int .i64 0]):=by
 have h1:=fun W hW=>qvalid_no ⟨#[48,46,50,53,48]⟩ (by decide +kernel) (by decide) W hW
 have h2:=fun W=>calls_same (cut_not ⟨#[48,46,50,53,48]⟩ (by intro t h;exact absurd (congrArg List.head? h) (by simp)) W)
 have h3:=fun W=>cut1 46 ⟨#[48,46,50,53,48]⟩ (by decide) W
 rw[show Lib.cut (⟨#[48,46,50,53,48]⟩:ByteArray).data.toList [46]=([48],[50,53,48],true) by decide +kernel]at h3
 have h4:=fun W=>rdigits ⟨#[48]⟩ (by simp only[toList_data];decide) (by decide) (by decide) W
 have h5:=fun W=>rdigits ⟨#[50,53,48]⟩ (by simp only[toList_data];decide) (by decide) (by decide) W
 have h6:=fun W=>calls_same' (Tryz.strings_TrimLeft_one ⟨#[48,50,53,48]⟩ 48 (by decide) W)
 rw[show(⟨(Lib.trimLeftB (⟨#[48,50,53,48]⟩:ByteArray).data.toList 48).toArray⟩:ByteArray)=⟨#[50,53,48]⟩by decide +kernel]at h6
 have h7:=fun W=>rpow10 3 (by decide) W
 rw[show Sz ((10^3:Nat):Int)=⟨#[49,48,48,48]⟩by decide +kernel]at h7
 have h8:=fun W hW=>qMake 250 1000 (by decide) (flT (by decide)) (FitL.of (k:=4) (show Sm 4 1000 by unfold Sm;decide) (by decide)) W hW
 rw[show Sz 250=⟨#[50,53,48]⟩by decide +kernel,show Sz 1000=⟨#[49,48,48,48]⟩by decide +kernel,show Sq (Rat.divInt 250 1000)=⟨#[49,47,52]⟩by decide +kernel]at h8
 exact parse_pos_raw _ _ ⟨#[48]⟩ ⟨#[50,53,48]⟩ ⟨#[50,53,48]⟩ ⟨#[49,48,48,48]⟩ _ 0 (by simp only[toList_data];decide) (by decide) (by decide) (by decide) w hl h1 h2 h3 h4 h5 h6 h7 h8
theorem qawake (w:World)(hl:La w):CR 7 #[] w (.bool true):=by
 have HT:=hid hl
 clear hl
 go_enter Tryz.func7,Tryz.ntmps7
 have HB0:=hid (Below.refl w.heap.size w)
 go_wp2_with fail
 refine(qx_add _ (HT.out.on HB0.out)).mono ?_
 rintro e w1 ⟨rfl,hb⟩
 have HB1:=hbt HB0 hb
 clear hb
 go_wp2_with fail
 refine(qx_div _ (HT.out.on HB1.out)).mono ?_
 rintro e w2 ⟨rfl,hb⟩
 have HB2:=hbt HB1 hb
 clear hb
 go_wp2_with fail
 refine(qx_floor _ (HT.out.on HB2.out)).mono ?_
 rintro e w3 ⟨rfl,hb⟩
 have HB3:=hbt HB2 hb
 clear hb
 go_wp2_with fail
 refine(qx_dec1 _ (HT.out.on HB3.out)).mono ?_
 rintro e w4 ⟨rfl,hb⟩
 have HB4:=hbt HB3 hb
 clear hb
 go_wp2_with fail
 refine(qx_dec2 _ (HT.out.on HB4.out)).mono ?_
 rintro e w5 ⟨rfl,hb⟩
 have HB5:=hbt HB4 hb
 clear hb
 go_wp2_with fail
 refine(qx_parse _ (HT.out.on HB5.out)).mono ?_
 rintro e w6 ⟨rfl,hb⟩
 have HB6:=hbt HB5 hb
 clear hb
 go_wp2_with fail
 refine(awk_simplest1 _ (HT.out.on HB6.out)).mono ?_
 rintro e w7 ⟨rfl,hb⟩
 have HB7:=hbt HB6 hb
 clear hb
 go_wp2_with fail
 refine(awk_simplest2 _ (HT.out.on HB7.out)).mono ?_
 rintro e w8 ⟨rfl,hb⟩
 have HB8:=hbt HB7 hb
 clear hb
 go_wp2_with fail
 refine(qx_make _ (HT.out.on HB8.out)).mono ?_
 rintro e w9 ⟨rfl,hb⟩
 have HB9:=hbt HB8 hb
 clear hb
 go_wp2_with fail
 refine(qx_parts _ (HT.out.on HB9.out)).mono ?_
 rintro e w10 ⟨rfl,hb⟩
 have HB10:=hbt HB9 hb
 clear hb
 go_wp2_with fail
 refine(qx_cmp _ (HT.out.on HB10.out)).mono ?_
 rintro e w11 ⟨rfl,hb⟩
 have HB11:=hbt HB10 hb
 clear hb
 go_wp2_with fail
 refine(qx_sub _ (HT.out.on HB11.out)).mono ?_
 rintro e w12 ⟨rfl,hb⟩
 have HB12:=hbt HB11 hb
 clear hb
 go_wp2_with fail
 refine(qx_mul _ (HT.out.on HB12.out)).mono ?_
 rintro e w13 ⟨rfl,hb⟩
 have HB13:=hbt HB12 hb
 clear hb
 go_wp2_with fail
 refine(qx_v1 _ (HT.out.on HB13.out)).mono ?_
 rintro e w14 ⟨rfl,hb⟩
 have HB14:=hbt HB13 hb
 clear hb
 go_wp2_with fail
 refine(qx_v2 _ (HT.out.on HB14.out)).mono ?_
 rintro e w15 ⟨rfl,hb⟩
 have HB15:=hbt HB14 hb
 clear hb
 go_wp2_with fail
 refine(qx_v3 _ (HT.out.on HB15.out)).mono ?_
 rintro e w16 ⟨rfl,hb⟩
 have HB16:=hbt HB15 hb
 clear hb
 go_wp2
 go_ret
 exact⟨rfl,HB16.out⟩
open Go.RowKit Go.Gb
theorem long1_yes (g:Nat)(a:ByteArray)(w:World)(hab:60<a.size)(hc:w.cell? ⟨g,0,none⟩=some (.string a)) :
 Calls Tryz.prog 8 #[.slice (some ⟨g,0,none⟩) 1 1] w fun e w'=>e=.returned (.bool true)∧w=w':=by
 have c0:=hc
 clear hc
 have ka:(60:Int)<(a.size:Int):=by omega
 clear hab
 go_enter Tryz.func8,Tryz.ntmps8
 go_wp2
 refine wp_loop_rounds 2 ?_
 rw[rounds_succ]
 go_wp2
 go_ret
 exact⟨rfl,rfl⟩
theorem strs_cells2 (w:World)(a b:ByteArray):(w.alloc (.cells #[.string a,.string b] 22)).cell? ⟨w.heap.size,0,none⟩=some (.string a)∧(w.alloc (.cells #[.string a,.string b] 22)).cell? ⟨w.heap.size,1,none⟩=some (.string b):=by
 refine⟨?_,?_⟩<;>simp
theorem long2_no (g:Nat)(a b:ByteArray)(w:World)(ha:a.size≤60)(hb:b.size≤60)(hc:w.cell? ⟨g,0,none⟩=some (.string a)∧w.cell? ⟨g,1,none⟩=some (.string b)) :
 Calls Tryz.prog 8 #[.slice (some ⟨g,0,none⟩) 2 2] w fun e w'=>e=.returned (.bool false)∧w=w':=by
 obtain⟨c0,c1⟩:=hc
 have ka:¬ (60:Int)<(a.size:Int):=by omega
 have kb:¬ (60:Int)<(b.size:Int):=by omega
 go_enter Tryz.func8,Tryz.ntmps8
 go_wp2
 refine wp_loop_rounds 3 ?_
 rw[rounds_succ]
 go_wp2
 rw[rounds_succ]
 go_wp2
 rw[rounds_succ]
 go_wp2
 go_ret
 exact⟨rfl,rfl⟩
theorem long2_yes (g:Nat)(a b:ByteArray)(w:World)(hab:60<a.size∨60<b.size)(hc:w.cell? ⟨g,0,none⟩=some (.string a)∧w.cell? ⟨g,1,none⟩=some (.string b)) :
 Calls Tryz.prog 8 #[.slice (some ⟨g,0,none⟩) 2 2] w fun e w'=>e=.returned (.bool true)∧w=w':=by
 obtain⟨c0,c1⟩:=hc
 by_cases ha:60<a.size
 · have ka:(60:Int)<(a.size:Int):=by omega
   clear hab
   go_enter Tryz.func8,Tryz.ntmps8
   go_wp2
   refine wp_loop_rounds 3 ?_
   rw[rounds_succ]
   go_wp2
   go_ret
   exact⟨rfl,rfl⟩
 · have ka:¬ (60:Int)<(a.size:Int):=by omega
   have kb:(60:Int)<(b.size:Int):=by omega
   clear hab
   go_enter Tryz.func8,Tryz.ntmps8
   go_wp2
   refine wp_loop_rounds 3 ?_
   rw[rounds_succ]
   go_wp2
   rw[rounds_succ]
   go_wp2
   go_ret
   exact⟨rfl,rfl⟩
end Go.Proofs.YtmigpoiajkihhaaGreatDoor
namespace Go.Gb
open Go Go.RowKit
section
variable {P:Program} {ops:Array Oper} {Q:Exit→Act→World→Prop}
structure RInv (ops:Array Oper) (m:Nat) (sl:Nat→Nat) (R:Nat→Value→World→Prop) (a0:Act) (W:World→Prop) (listed:Array Bool) (a:Act) (w:World):Prop where
 closed:Closed .any ops listed
 size:listed.size=ops.size
 slots:∀ i,i<m→listed.getD i false=true→∃ v,a.tmps[sl i]? = some v∧R i v w
 rest:∀ d,(∀ i,i<m→sl i≠d)→a.tmps[d]? = a0.tmps[d]?
 tsize:a.tmps.size=a0.tmps.size
 defers:a.defers=a0.defers
 world:W w
variable {m:Nat} {sl:Nat→Nat} {R:Nat→Value→World→Prop} {a a0:Act} {W:World→Prop} {listed:Array Bool} {w w':World}
theorem RInv.start (h:W w):RInv ops m sl R a W (Array.replicate ops.size false) a w :=
 ⟨closed_none _,by simp,fun i _ hi=>by
  exfalso
  simp only[Array.getD_eq_getD_getElem?,Array.getElem?_replicate]at hi
  split at hi<;>simp at hi,fun _ _=>rfl,rfl,rfl,h⟩
theorem RInv.put {i d:Nat}{v:Value}(h:RInv ops m sl R a0 W listed a w)(hi:i∈Region.ready .any ops listed)(hm:i<m)(hd:d=sl i)(hlo:d<a0.tmps.size)
 (hinj:∀ j,j<m→sl j=d→j=i) (hv:R i v w') (hR:∀ j u,R j u w→R j u w') (hW:W w'):RInv ops m sl R a0 W (listed.setIfInBounds i true) (a.put (some d) v) w':=by
 subst hd
 have hp:(a.put (some (sl i)) v).tmps=a.tmps.setIfInBounds (sl i) v:=rfl
 have hts:=h.tsize
 refine⟨h.closed.set hi,by simpa using h.size,fun j hj hl=>?_,fun e he=>?_,by rw[hp];simpa using hts,h.defers,hW⟩
 · rw[hp]
   by_cases hji:j=i
   · subst hji
     exact⟨v,by rw[Array.getElem?_setIfInBounds_self_of_lt (by omega)],hv⟩
   · rw[Array.getElem?_setIfInBounds_ne (fun e=>hji (hinj j hj e.symm))]
     rcases getD_set_cases hl with h2|h2
     · exact absurd h2 hji
     · obtain⟨u,h3,h4⟩:=h.slots j hj h2
       exact⟨u,h3,hR j u h4⟩
 · rw[hp,Array.getElem?_setIfInBounds_ne (he i hm)]
   exact h.rest e he
theorem RInv.at {i j:Nat}(h:RInv ops m sl R a0 W listed a w)(hj:j∈Region.ready .any ops listed)(hw:Region.waitsFor .any ops j i=true)(hm:i<m) :
 ∃ v,a.tmps[sl i]? = some v∧R i v w:=h.slots i hm (ready_waits hj hw)
def putL:List (Nat × Value)→Array Value→Array Value
 | [],t=>t
 | p :: ps,t=>putL ps (t.setIfInBounds p.1 p.2)
theorem putL_eq:∀ (L:List (Nat × Value)) (t T:Array Value),T.size=t.size→(∀ p,p∈L→T[p.1]? = some p.2)→(∀ d,(∀ p,p∈L→p.1≠d)→T[d]? = t[d]?)→T=putL L t
 | [],t,T,_,_,h=>Array.ext_getElem? fun d=>h d (fun _ hp=>by cases hp)
 | p :: ps,t,T,hs,h1,h2=>by
   refine putL_eq ps _ T (by simpa using hs) (fun q hq=>h1 q (List.mem_cons_of_mem _ hq)) (fun d hd=>?_)
   have hp:=h1 p List.mem_cons_self
   by_cases hpd:p.1=d
   · subst hpd
     have hlt:p.1<T.size:=(Array.getElem?_eq_some_iff.1 hp).1
     rw[hp,Array.getElem?_setIfInBounds_self_of_lt (by omega)]
   · rw[Array.getElem?_setIfInBounds_ne hpd]
     exact h2 d (fun q hq=>by
       rcases List.mem_cons.1 hq with rfl|hq
       · exact hpd
       · exact hd q hq)
theorem RInv.fin (h:RInv ops m sl R a0 W listed a w)(L:List (Nat × Value))(h1:∀ p,p∈L→a.tmps[p.1]? = some p.2)(h2:∀ d,(∀ p,p∈L→p.1≠d)→∀ i,i<m→sl i≠d):a=⟨putL L a0.tmps,a0.defers⟩:=by
 have ht:=putL_eq L a0.tmps a.tmps h.tsize h1 (fun d hd=>h.rest d (h2 d hd))
 have hd:=h.defers
 cases a
 simp only at ht hd
 rw[ht,hd]
def lastB (ops:Array Oper) (m:Nat):Bool:=(List.range m).all fun j=>(List.range (m+1)).any fun k=>decide (j<k)&&Region.waitsFor .any ops k j
theorem last_all (hl:lastB ops m=true)(hc:Closed .any ops listed)(hr:m∈Region.ready .any ops listed):∀ n j,n+j=m→0<n→listed.getD j false=true:=by
 intro n
 induction n using Nat.strongRecOn with
 | _ n ih =>
   intro j hj hn
   have h1:=List.all_eq_true.1 hl j (List.mem_range.2 (by omega))
   obtain⟨k,hk,h2⟩:=List.any_eq_true.1 h1
   have hk:=List.mem_range.1 hk
   rw[Bool.and_eq_true,decide_eq_true_iff]at h2
   by_cases hkm:k=m
   · subst hkm;exact ready_waits hr h2.2
   · exact hc k j (ih (m-k) (by omega) k (by omega) (by omega)) h2.2
theorem getD_set_ne {listed:Array Bool}{i j:Nat}(h:j≠i):(listed.setIfInBounds i true).getD j false=listed.getD j false:=by
 simp only[Array.getD_eq_getD_getElem?]
 rw[Array.getElem?_setIfInBounds_ne (Ne.symm h)]
theorem getD_set_eq {listed:Array Bool}{i:Nat}(h:i<listed.size):(listed.setIfInBounds i true).getD i false=true:=by
 simp only[Array.getD_eq_getD_getElem?]
 rw[Array.getElem?_setIfInBounds_self_of_lt h]
 rfl
end
inductive Slot where
 | val (v:Value)
 | row (cs:List Value)
 | ptr (cs:List Value)
def Slot.Ok (b:Nat) (v:Value) (W:World):Slot→Prop
 | .val u=>v=u
 | .row cs=>∃ g,v=.slice (some ⟨g,0,none⟩) cs.length cs.length∧b≤g∧g<W.heap.size∧∀ i x,cs[i]? = some x→W.cell? ⟨g,i,none⟩=some x
 | .ptr cs=>∃ g,v=.pointer (some ⟨g,0,none⟩)∧b≤g∧g<W.heap.size∧(∀ i x,cs[i]? = some x→W.cell? ⟨g,i,none⟩=some x)∧(∀ i x,cs[i]? = some x→W.frozen? ⟨g,i,none⟩=false)
theorem Slot.Ok.mono {b:Nat}{v:Value}{W W':World}{s:Slot}(h:s.Ok b v W)(hb:Below W.heap.size W W'):s.Ok b v W':=by
 cases s with
 | val u=>exact h
 | row cs =>
   obtain⟨g,h1,h2,h3,h4⟩:=h
   exact⟨g,h1,h2,Nat.lt_of_lt_of_le h3 hb.size,fun i x hx=>(hb.cell (p:=⟨g,i,none⟩) h3).trans (h4 i x hx)⟩
 | ptr cs =>
   obtain⟨g,h1,h2,h3,h4,h5⟩:=h
   exact⟨g,h1,h2,Nat.lt_of_lt_of_le h3 hb.size,fun i x hx=>(hb.cell (p:=⟨g,i,none⟩) h3).trans (h4 i x hx),fun i x hx=>(hb.frozen (p:=⟨g,i,none⟩) h3).trans (h5 i x hx)⟩
def SlR (b:Nat) (L:List Slot) (i:Nat) (v:Value) (W:World):Prop:=(L.getD i (.val undef)).Ok b v W
theorem SlR.mono {b:Nat}{L:List Slot}{W W':World}(hb:Below W.heap.size W W')(i:Nat)(v:Value)(h:SlR b L i v W):SlR b L i v W':=Slot.Ok.mono h hb
end Go.Gb
