/- Texts of this proof, one behind the other. -/
import Derived.Test.YtmigpoiajkihhaaGreatDoorMz1q
import Derived.Test.YtmigpoiajkihhaaGreatDoorQm
import Derived.Test.YtmigpoiajkihhaaGreatDoorMz17q
import Derived.Test.YtmigpoiajkihhaaGreatDoorMz5q
/- The examples of chapter 3; garboardlaw03.awake. -/
open Go.Lib (hid)
namespace Go.Proofs.YtmigpoiajkihhaaGreatDoor
set_option maxRecDepth 100000
set_option maxHeartbeats 20000000
open Go.RowKit Go.Gb
theorem q_1_2:Sq (1/2:Rat)=⟨#[49,47,50]⟩:=by decide +kernel
theorem q_1_3:Sq (1/3:Rat)=⟨#[49,47,51]⟩:=by decide +kernel
theorem q_5_6:Sq (5/6:Rat)=⟨#[53,47,54]⟩:=by decide +kernel
theorem q_3_4:Sq (3/4:Rat)=⟨#[51,47,52]⟩:=by decide +kernel
theorem q_n3_2:Sq (-3/2:Rat)=⟨#[45,51,47,50]⟩:=by decide +kernel
theorem q_n1_2:Sq (-1/2:Rat)=⟨#[45,49,47,50]⟩:=by decide +kernel
theorem q_2_3:Sq (2/3:Rat)=⟨#[50,47,51]⟩:=by decide +kernel
theorem q_3_2:Sq (3/2:Rat)=⟨#[51,47,50]⟩:=by decide +kernel
theorem q_0:Sq (0:Rat)=⟨#[48]⟩:=by decide +kernel
theorem q_1:Sq (1:Rat)=⟨#[49]⟩:=by decide +kernel
theorem q_n3_4:Sq (-3/4:Rat)=⟨#[45,51,47,52]⟩:=by decide +kernel
theorem q_5_2:Sq (5/2:Rat)=⟨#[53,47,50]⟩:=by decide +kernel
theorem q_n2_3:Sq (-2/3:Rat)=⟨#[45,50,47,51]⟩:=by decide +kernel
theorem qx_add (w:World) (hl:La w):CR 17 #[.string ⟨#[49,47,50]⟩,.string ⟨#[49,47,51]⟩] w (.tuple #[.string ⟨#[53,47,54]⟩,.int .i64 0]):=by
 have h:=qAddS (1/2:Rat) (1/3:Rat) (5/6:Rat) (by decide +kernel) (fitq_small (by decide +kernel) (by decide +kernel)) (fitq_small (by decide +kernel) (by decide +kernel)) (by unfold Sma;decide +kernel) w hl
 rw [q_1_2,q_1_3,q_5_6] at h
 exact h
theorem qx_sub (w:World) (hl:La w):CR 19 #[.string ⟨#[49,47,50]⟩,.string ⟨#[49,47,50]⟩] w (.tuple #[.string ⟨#[48]⟩,.int .i64 0]):=by
 have h:=qSubS (1/2:Rat) (1/2:Rat) (0:Rat) (by decide +kernel) (fitq_small (by decide +kernel) (by decide +kernel)) (fitq_small (by decide +kernel) (by decide +kernel)) (by unfold Sma;decide +kernel) w hl
 rw [q_1_2,q_0] at h
 exact h
theorem qx_mul (w:World) (hl:La w):CR 21 #[.string ⟨#[50,47,51]⟩,.string ⟨#[51,47,50]⟩] w (.tuple #[.string ⟨#[49]⟩,.int .i64 0]):=by
 have h:=qMulS (2/3:Rat) (3/2:Rat) (1:Rat) (by decide +kernel) (fitq_small (by decide +kernel) (by decide +kernel)) (fitq_small (by decide +kernel) (by decide +kernel)) (by unfold Sma;decide +kernel) w hl
 rw [q_2_3,q_3_2,q_1] at h
 exact h
theorem qx_div (w:World) (hl:La w):CR 23 #[.string ⟨#[51,47,52]⟩,.string ⟨#[45,51,47,50]⟩] w (.tuple #[.string ⟨#[45,49,47,50]⟩,.int .i64 0]):=by
 have h:=qDivS (3/4:Rat) (-3/2:Rat) (-1/2:Rat) (by decide +kernel) (fitq_small (by decide +kernel) (by decide +kernel)) (fitq_small (by decide +kernel) (by decide +kernel)) (by decide +kernel) (by unfold Sma;decide +kernel) w hl
 rw [q_3_4,q_n3_2,q_n1_2] at h
 exact h
theorem qx_cmp (w:World) (hl:La w):CR 15 #[.string ⟨#[49,47,51]⟩,.string ⟨#[49,47,50]⟩] w (.tuple #[.int .i64 (-1),.int .i64 0]):=by
 have h:=qCompareS (1/3:Rat) (1/2:Rat) (-1) (by decide +kernel) (fitq_small (by decide +kernel) (by decide +kernel)) (fitq_small (by decide +kernel) (by decide +kernel)) (by unfold Sma;decide +kernel) w hl
 rw [q_1_3,q_1_2] at h
 exact h
theorem qx_floor (w:World) (hl:La w):CR 25 #[.string ⟨#[45,49,47,50]⟩] w (.tuple #[.string ⟨#[45,49]⟩,.int .i64 0]):=by
 have h:=qfloor (-1/2:Rat) (fitq_small (by decide +kernel) (by decide +kernel)) w hl
 rw [q_n1_2,show Sz (((-1/2:Rat)).num / (((-1/2:Rat)).den:Int))=⟨#[45,49]⟩ by decide +kernel] at h
 exact h
theorem qx_parts (w:World) (hl:La w):CR 11 #[.string ⟨#[45,51,47,50]⟩] w (.tuple #[.string ⟨#[45,51]⟩,.string ⟨#[50]⟩,.int .i64 0]):=by
 have h:=qparts (-3/2:Rat) (fitq_small (by decide +kernel) (by decide +kernel)) w hl
 rw [q_n3_2,show Sz ((-3/2:Rat)).num=⟨#[45,51]⟩ by decide +kernel,show Sz (((-3/2:Rat)).den:Int)=⟨#[50]⟩ by decide +kernel] at h
 exact h
theorem qx_make (w:World) (hl:La w):CR 9 #[.string ⟨#[54]⟩,.string ⟨#[45,52]⟩] w (.tuple #[.string ⟨#[45,51,47,50]⟩,.int .i64 0]):=by
 have h:=qMake 6 (-4) (by decide) (flS (by decide)) (flS (by decide)) w hl
 rw [show Sz 6=⟨#[54]⟩ by decide +kernel,show Sz (-4)=⟨#[45,52]⟩ by decide +kernel,show Sq (Rat.divInt 6 (-4))=⟨#[45,51,47,50]⟩ by decide +kernel] at h
 exact h
theorem qx_v1 (w:World) (hl:La w):CR 13 #[.string ⟨#[45,51,47,52]⟩] w (.bool true):=by
 have h:=qvalid_yes (-3/4:Rat) (fitq_small (by decide +kernel) (by decide +kernel)) w hl
 rw [q_n3_4] at h
 exact h
theorem qx_v2 (w:World) (hl:La w):CR 13 #[.string ⟨#[50,47,52]⟩] w (.bool false):=qvalid_no _ (by decide +kernel) (by decide) w hl
theorem qx_v3 (w:World) (hl:La w):CR 13 #[.string ⟨#[]⟩] w (.bool false):=qvalid_no _ (by decide +kernel) (by decide) w hl
theorem qx_dec1 (w:World) (hl:La w):CR 27 #[.string ⟨#[45,50,47,51]⟩,.int .i64 2] w (.tuple #[.string ⟨#[45,48,46,54,55]⟩,.int .i64 0]):=by
 have h1:=fun W hW=>fread_yes (-2/3) (fitq_small (by decide +kernel) (by decide +kernel)) W hW
 rw [q_n2_3,(qnd (-2/3) (-2) 3 ⟨#[45,50,47,51]⟩ ⟨#[45,50]⟩ ⟨#[51]⟩ (by decide +kernel)).2] at h1
 have h2:=fun W=>rpow10 2 (by decide) W
 rw [show Sz ((10 ^ 2:Nat):Int)=⟨#[49,48,48]⟩ by decide +kernel] at h2
 have h3:=fun W hW=>rtimes (-2) 100 (-200) (by decide) (flT (by decide)) (flT (by decide)) (flT (by decide)) W hW
 rw [show Sz (-2)=⟨#[45,50]⟩ by decide +kernel,show Sz 100=⟨#[49,48,48]⟩ by decide +kernel,show Sz (-200)=⟨#[45,50,48,48]⟩ by decide +kernel] at h3
 have h4:=fun W hW=>rnearest (-200) 3 (by decide) ((show Sm 3 200 by unfold Sm;decide).mono (by decide)) ((show Sm 3 3 by unfold Sm;decide).mono (by decide)) W hW
 rw [show Sz (nearZ (-200) 3)=⟨#[45,54,55]⟩ by decide +kernel,show Sz 3=⟨#[51]⟩ by decide +kernel,show Sz (-200)=⟨#[45,50,48,48]⟩ by decide +kernel] at h4
 have h5:=fun W=>place_neg ⟨#[45,54,55]⟩ ⟨#[54,55]⟩ 2 (by decide) (by decide) (by decide) W (fun W=>cut_neg [54,55] W)
 rw [show (⟨#[45]⟩ ++ pointB (⟨#[54,55]⟩:ByteArray).data.toList 2:ByteArray)=⟨#[45,48,46,54,55]⟩ by decide +kernel] at h5
 exact decimal_raw _ _ _ _ _ _ _ 2 (by decide) (by decide) w hl h1 h2 h3 h4 h5
theorem qx_dec2 (w:World) (hl:La w):CR 27 #[.string ⟨#[53,47,50]⟩,.int .i64 0] w (.tuple #[.string ⟨#[51]⟩,.int .i64 0]):=by
 have h1:=fun W hW=>fread_yes (5/2) (fitq_small (by decide +kernel) (by decide +kernel)) W hW
 rw [q_5_2,(qnd (5/2) 5 2 ⟨#[53,47,50]⟩ ⟨#[53]⟩ ⟨#[50]⟩ (by decide +kernel)).2] at h1
 have h2:=fun W=>rpow10 0 (by decide) W
 rw [show Sz ((10 ^ 0:Nat):Int)=⟨#[49]⟩ by decide +kernel] at h2
 have h3:=fun W hW=>rtimes 5 1 5 (by decide) (flT (by decide)) (flT (by decide)) (flT (by decide)) W hW
 rw [show Sz 5=⟨#[53]⟩ by decide +kernel,show Sz 1=⟨#[49]⟩ by decide +kernel] at h3
 have h4:=fun W hW=>rnearest 5 2 (by decide) ((show Sm 3 5 by unfold Sm;decide).mono (by decide)) ((show Sm 3 2 by unfold Sm;decide).mono (by decide)) W hW
 rw [show Sz (nearZ 5 2)=⟨#[51]⟩ by decide +kernel,show Sz 5=⟨#[53]⟩ by decide +kernel,show Sz 2=⟨#[50]⟩ by decide +kernel] at h4
 exact decimal_raw _ _ _ _ _ _ _ 0 (by decide) (by decide) w hl h1 h2 h3 h4 (fun W=>place_zero _ W)
theorem calls_same {P:Program} {f:Nat} {args:Array Value} {W:World} {r:Value} (h:Calls P f args W fun e w'=>e=.returned r∧W=w'):Calls P f args W fun e w'=>e=.returned r∧Below W.heap.size W w' :=
 h.mono (fun _ _ ⟨h1,h2⟩=>⟨h1,h2 ▸ Below.refl _ _⟩)
theorem calls_same' {P:Program} {f:Nat} {args:Array Value} {W:World} {r:Value} (h:Calls P f args W fun e w'=>e=.returned r∧w'=W):Calls P f args W fun e w'=>e=.returned r∧Below W.heap.size W w' :=
 h.mono (fun _ _ ⟨h1,h2⟩=>⟨h1,h2 ▸ Below.refl _ _⟩)
theorem qx_parse (w:World) (hl:La w):CR 29 #[.string ⟨#[48,46,50,53,48]⟩] w (.tuple #[.string ⟨#[49,47,52]⟩,.int .i64 0]):=by
 have h1:=fun W hW=>qvalid_no ⟨#[48,46,50,53,48]⟩ (by decide +kernel) (by decide) W hW
 have h2:=fun W=>calls_same (cut_not ⟨#[48,46,50,53,48]⟩ (by intro t h;exact absurd (congrArg List.head? h) (by simp)) W)
 have h3:=fun W=>cut1 46 ⟨#[48,46,50,53,48]⟩ (by decide) W
 rw [show Lib.cut (⟨#[48,46,50,53,48]⟩:ByteArray).data.toList [46]=([48],[50,53,48],true) by decide +kernel] at h3
 have h4:=fun W=>rdigits ⟨#[48]⟩ (by simp only [toList_data];decide) (by decide) (by decide) W
 have h5:=fun W=>rdigits ⟨#[50,53,48]⟩ (by simp only [toList_data];decide) (by decide) (by decide) W
 have h6:=fun W=>calls_same' (Tryz.strings_TrimLeft_one ⟨#[48,50,53,48]⟩ 48 (by decide) W)
 rw [show (⟨(Lib.trimLeftB (⟨#[48,50,53,48]⟩:ByteArray).data.toList 48).toArray⟩:ByteArray)=⟨#[50,53,48]⟩ by decide +kernel] at h6
 have h7:=fun W=>rpow10 3 (by decide) W
 rw [show Sz ((10 ^ 3:Nat):Int)=⟨#[49,48,48,48]⟩ by decide +kernel] at h7
 have h8:=fun W hW=>qMake 250 1000 (by decide) (flT (by decide)) (FitL.of (k:=4) (show Sm 4 1000 by unfold Sm;decide) (by decide)) W hW
 rw [show Sz 250=⟨#[50,53,48]⟩ by decide +kernel,show Sz 1000=⟨#[49,48,48,48]⟩ by decide +kernel,show Sq (Rat.divInt 250 1000)=⟨#[49,47,52]⟩ by decide +kernel] at h8
 exact parse_pos_raw _ _ ⟨#[48]⟩ ⟨#[50,53,48]⟩ ⟨#[50,53,48]⟩ ⟨#[49,48,48,48]⟩ _ 0 (by simp only [toList_data];decide) (by decide) (by decide) (by decide) w hl h1 h2 h3 h4 h5 h6 h7 h8
theorem qawake (w:World) (hl:La w):CR 7 #[] w (.bool true):=by
 have HT:=hid hl
 clear hl
 go_enter Tryz.func7,Tryz.ntmps7
 have HB0:=hid (Below.refl w.heap.size w)
 go_wp2_with fail
 refine (qx_add _ (HT.out.on HB0.out)).mono ?_
 rintro e w1 ⟨rfl,hb⟩
 have HB1:=hid (HB0.out.trans (hb.mono HB0.out.size))
 clear hb
 go_wp2_with fail
 refine (qx_div _ (HT.out.on HB1.out)).mono ?_
 rintro e w2 ⟨rfl,hb⟩
 have HB2:=hid (HB1.out.trans (hb.mono HB1.out.size))
 clear hb
 go_wp2_with fail
 refine (qx_floor _ (HT.out.on HB2.out)).mono ?_
 rintro e w3 ⟨rfl,hb⟩
 have HB3:=hid (HB2.out.trans (hb.mono HB2.out.size))
 clear hb
 go_wp2_with fail
 refine (qx_dec1 _ (HT.out.on HB3.out)).mono ?_
 rintro e w4 ⟨rfl,hb⟩
 have HB4:=hid (HB3.out.trans (hb.mono HB3.out.size))
 clear hb
 go_wp2_with fail
 refine (qx_dec2 _ (HT.out.on HB4.out)).mono ?_
 rintro e w5 ⟨rfl,hb⟩
 have HB5:=hid (HB4.out.trans (hb.mono HB4.out.size))
 clear hb
 go_wp2_with fail
 refine (qx_parse _ (HT.out.on HB5.out)).mono ?_
 rintro e w6 ⟨rfl,hb⟩
 have HB6:=hid (HB5.out.trans (hb.mono HB5.out.size))
 clear hb
 go_wp2_with fail
 refine (awk_simplest1 _ (HT.out.on HB6.out)).mono ?_
 rintro e w7 ⟨rfl,hb⟩
 have HB7:=hid (HB6.out.trans (hb.mono HB6.out.size))
 clear hb
 go_wp2_with fail
 refine (awk_simplest2 _ (HT.out.on HB7.out)).mono ?_
 rintro e w8 ⟨rfl,hb⟩
 have HB8:=hid (HB7.out.trans (hb.mono HB7.out.size))
 clear hb
 go_wp2_with fail
 refine (qx_make _ (HT.out.on HB8.out)).mono ?_
 rintro e w9 ⟨rfl,hb⟩
 have HB9:=hid (HB8.out.trans (hb.mono HB8.out.size))
 clear hb
 go_wp2_with fail
 refine (qx_parts _ (HT.out.on HB9.out)).mono ?_
 rintro e w10 ⟨rfl,hb⟩
 have HB10:=hid (HB9.out.trans (hb.mono HB9.out.size))
 clear hb
 go_wp2_with fail
 refine (qx_cmp _ (HT.out.on HB10.out)).mono ?_
 rintro e w11 ⟨rfl,hb⟩
 have HB11:=hid (HB10.out.trans (hb.mono HB10.out.size))
 clear hb
 go_wp2_with fail
 refine (qx_sub _ (HT.out.on HB11.out)).mono ?_
 rintro e w12 ⟨rfl,hb⟩
 have HB12:=hid (HB11.out.trans (hb.mono HB11.out.size))
 clear hb
 go_wp2_with fail
 refine (qx_mul _ (HT.out.on HB12.out)).mono ?_
 rintro e w13 ⟨rfl,hb⟩
 have HB13:=hid (HB12.out.trans (hb.mono HB12.out.size))
 clear hb
 go_wp2_with fail
 refine (qx_v1 _ (HT.out.on HB13.out)).mono ?_
 rintro e w14 ⟨rfl,hb⟩
 have HB14:=hid (HB13.out.trans (hb.mono HB13.out.size))
 clear hb
 go_wp2_with fail
 refine (qx_v2 _ (HT.out.on HB14.out)).mono ?_
 rintro e w15 ⟨rfl,hb⟩
 have HB15:=hid (HB14.out.trans (hb.mono HB14.out.size))
 clear hb
 go_wp2_with fail
 refine (qx_v3 _ (HT.out.on HB15.out)).mono ?_
 rintro e w16 ⟨rfl,hb⟩
 have HB16:=hid (HB15.out.trans (hb.mono HB15.out.size))
 clear hb
 go_wp2
 go_ret
 exact ⟨rfl,HB16.out⟩
end Go.Proofs.YtmigpoiajkihhaaGreatDoor
/- garboardlaw03.long: walks. -/
namespace Go.Proofs.YtmigpoiajkihhaaGreatDoor
open Go.RowKit Go.Gb
theorem long1_yes (g:Nat) (a:ByteArray) (w:World) (hab:60<a.size) (hc:w.cell? ⟨g,0,none⟩=some (.string a)) :
 Calls Tryz.prog 8 #[.slice (some ⟨g,0,none⟩) 1 1] w fun e w'=>e=.returned (.bool true)∧w=w':=by
 have c0:=hc
 clear hc
 have ka:(60:Int)<(a.size:Int):=by omega
 clear hab
 go_enter Tryz.func8,Tryz.ntmps8
 go_wp2
 refine wp_loop_rounds 2 ?_
 rw [rounds_succ]
 go_wp2
 go_ret
 exact ⟨rfl,rfl⟩
theorem strs_cells2 (w:World) (a b:ByteArray):(w.alloc (.cells #[.string a,.string b] 22)).cell? ⟨w.heap.size,0,none⟩=some (.string a)∧(w.alloc (.cells #[.string a,.string b] 22)).cell? ⟨w.heap.size,1,none⟩=some (.string b):=by
 refine ⟨?_,?_⟩ <;> simp
theorem long2_no (g:Nat) (a b:ByteArray) (w:World) (ha:a.size≤60) (hb:b.size≤60) (hc:w.cell? ⟨g,0,none⟩=some (.string a)∧w.cell? ⟨g,1,none⟩=some (.string b)) :
 Calls Tryz.prog 8 #[.slice (some ⟨g,0,none⟩) 2 2] w fun e w'=>e=.returned (.bool false)∧w=w':=by
 obtain ⟨c0,c1⟩:=hc
 have ka:¬ (60:Int)<(a.size:Int):=by omega
 have kb:¬ (60:Int)<(b.size:Int):=by omega
 go_enter Tryz.func8,Tryz.ntmps8
 go_wp2
 refine wp_loop_rounds 3 ?_
 rw [rounds_succ]
 go_wp2
 rw [rounds_succ]
 go_wp2
 rw [rounds_succ]
 go_wp2
 go_ret
 exact ⟨rfl,rfl⟩
theorem long2_yes (g:Nat) (a b:ByteArray) (w:World) (hab:60<a.size∨60<b.size) (hc:w.cell? ⟨g,0,none⟩=some (.string a)∧w.cell? ⟨g,1,none⟩=some (.string b)) :
 Calls Tryz.prog 8 #[.slice (some ⟨g,0,none⟩) 2 2] w fun e w'=>e=.returned (.bool true)∧w=w':=by
 obtain ⟨c0,c1⟩:=hc
 by_cases ha:60<a.size
 · have ka:(60:Int)<(a.size:Int):=by omega
   clear hab
   go_enter Tryz.func8,Tryz.ntmps8
   go_wp2
   refine wp_loop_rounds 3 ?_
   rw [rounds_succ]
   go_wp2
   go_ret
   exact ⟨rfl,rfl⟩
 · have ka:¬ (60:Int)<(a.size:Int):=by omega
   have kb:(60:Int)<(b.size:Int):=by omega
   clear hab
   go_enter Tryz.func8,Tryz.ntmps8
   go_wp2
   refine wp_loop_rounds 3 ?_
   rw [rounds_succ]
   go_wp2
   rw [rounds_succ]
   go_wp2
   go_ret
   exact ⟨rfl,rfl⟩
end Go.Proofs.YtmigpoiajkihhaaGreatDoor
/- The text of a number from its digits, the least one first. No program is mentioned. -/
namespace Go.Gb
open Go
def ldig (v m:Nat):List UInt8:=(List.range m).map fun t=>UInt8.ofNat (48+v / 10 ^ t % 10)
theorem ldig_length (v m:Nat):(ldig v m).length=m:=by simp [ldig]
theorem ldig_succ (v m:Nat):ldig v (m+1)=ldig v m ++ [UInt8.ofNat (48+v / 10 ^ m % 10)]:=by
 unfold ldig
 rw [List.range_succ]
 simp
theorem ldig_cons (v m:Nat):ldig v (m+1)=UInt8.ofNat (48+v % 10) :: ldig (v / 10) m:=by
 unfold ldig
 rw [List.range_succ_eq_map]
 simp only [List.map_cons,List.map_map,Nat.pow_zero,Nat.div_one]
 congr 1
 apply List.map_congr_left
 intro t _
 simp only [Function.comp,Nat.div_div_eq_div_mul,Nat.pow_succ,Nat.mul_comm]
theorem ldig_reverse:∀ (m v:Nat),10 ^ m≤v→v<10 ^ (m+1)→(ldig v (m+1)).reverse=Lib.decDigits v
 | 0,v,h1,h2=>by
   rw [ldig_cons]
   have hv:v<10:=by simpa using h2
   have h0:1≤v:=by simpa using h1
   rw [Nat.mod_eq_of_lt hv]
   rw [Lib.decDigits,dif_pos hv]
   simp [ldig]
 | m+1,v,h1,h2=>by
   rw [ldig_cons,List.reverse_cons,ldig_reverse m (v / 10) (by rw [Nat.le_div_iff_mul_le (by decide)];rw [Nat.pow_succ] at h1;exact h1) (by rw [Nat.div_lt_iff_lt_mul (by decide)];rw [Nat.pow_succ] at h2;exact h2)]
   have hv:¬ v<10:=by
    have:10≤10 ^ (m+1):=by
     rw [Nat.pow_succ]
     have:=Nat.one_le_pow m 10 (by decide)
     omega
    omega
   conv=>rhs;rw [Lib.decDigits,dif_neg hv]
theorem word_digit {xs:List Nat} (hx:∀ x ∈ xs,x<BB) {i k:Nat} (hi:i<xs.length) (hk:k<9):wval xs / 10 ^ (9 * i+k) % 10=xs.getD i 0 / 10 ^ k % 10:=by
 have hsplit:xs=xs.take i ++ (xs.getD i 0 :: xs.drop (i+1)):=by
  conv=>lhs;rw [← List.take_append_drop i xs]
  congr 1
  rw [List.drop_eq_getElem_cons hi]
  simp [List.getD,hi]
 have hlen:(xs.take i).length=i:=by simp;omega
 have hlt:=wval_lt (xs.take i) (fun x h=>hx x (List.mem_of_mem_take h))
 rw [hlen] at hlt
 have hv:wval xs=wval (xs.take i)+BB ^ i * (xs.getD i 0+BB * wval (xs.drop (i+1))):=by
  conv=>lhs;rw [hsplit]
  rw [wval_append,hlen]
  rfl
 have hB:BB ^ i=10 ^ (9 * i):=by rw [Nat.pow_mul,show BB=10 ^ 9 from by rw [BB_eq]]
 rw [hv,Nat.pow_add,← hB,← Nat.div_div_eq_div_mul,Nat.add_mul_div_left _ _ (Nat.pow_pos BB_pos),Nat.div_eq_of_lt hlt,Nat.zero_add]
 obtain ⟨e,he⟩:∃ e,BB=10 ^ k * (10 * e):=⟨10 ^ (8 - k),by
  rw [show (10:Nat) * 10 ^ (8 - k)=10 ^ (9 - k) by rw [← Nat.pow_succ'];congr 1;omega,← Nat.pow_add,show k+(9 - k)=9 by omega,BB_eq]⟩
 rw [he,Nat.mul_assoc,Nat.mul_assoc,Nat.add_mul_div_left _ _ (Nat.pow_pos (by decide)),Nat.add_mul_mod_self_left]
end Go.Gb
/- A list that is turned round in place, from both ends. No program is mentioned. -/
namespace Go.Gb
open Go
def swp (L:List UInt8) (i:Nat):List UInt8:=(List.range L.length).map fun j=>if j<i∨L.length<j+1+i then L.getD (L.length - 1 - j) 0 else L.getD j 0
theorem swp_length (L:List UInt8) (i:Nat):(swp L i).length=L.length:=by simp [swp]
theorem swp_get (L:List UInt8) (i:Nat) {j:Nat} (hj:j<L.length):(swp L i).getD j 0=if j<i∨L.length<j+1+i then L.getD (L.length - 1 - j) 0 else L.getD j 0:=by
 unfold swp
 simp [List.getD,hj]
theorem getD_ext {A B:List UInt8} (h:A.length=B.length) (hg:∀ j,j<A.length→A.getD j 0=B.getD j 0):A=B:=by
 apply List.ext_getElem h
 intro j h1 h2
 have:=hg j h1
 simpa [List.getD,h1,h2] using this
theorem swp_zero (L:List UInt8):swp L 0=L:=by
 refine getD_ext (swp_length L 0) (fun j hj=>?_)
 rw [swp_length] at hj
 rw [swp_get L 0 hj,if_neg (by omega)]
theorem swp_done (L:List UInt8) (i:Nat) (h:L.length≤2 * i+1):swp L i=L.reverse:=by
 refine getD_ext (by rw [swp_length,List.length_reverse]) (fun j hj=>?_)
 rw [swp_length] at hj
 rw [swp_get L i hj]
 have hr:L.reverse.getD j 0=L.getD (L.length - 1 - j) 0:=by
  have h2:L.length - 1 - j<L.length:=by omega
  simp [List.getD,hj,h2]
 rw [hr]
 split
 · rfl
 · rename_i hn
   rw [show L.length - 1 - j=j by omega]
theorem swp_low (L:List UInt8) (i:Nat) (h:2 * i+1<L.length):(swp L i).getD i 0=L.getD i 0:=by
 rw [swp_get L i (by omega),if_neg (by omega)]
theorem swp_high (L:List UInt8) (i:Nat) (h:2 * i+1<L.length):(swp L i).getD (L.length - 1 - i) 0=L.getD (L.length - 1 - i) 0:=by
 rw [swp_get L i (by omega),if_neg (by omega)]
theorem swp_succ (L:List UInt8) (i:Nat) (h:2 * i+1<L.length):((swp L i).set i (L.getD (L.length - 1 - i) 0)).set (L.length - 1 - i) (L.getD i 0)=swp L (i+1):=by
 refine getD_ext (by simp [swp_length]) (fun j hj=>?_)
 simp [swp_length] at hj
 have hs:∀ (A:List UInt8) (m:Nat) (v:UInt8),j<A.length→(A.set m v).getD j 0=if m=j then v else A.getD j 0:=by
  intro A m v hA
  by_cases hm:m=j
  · subst hm;simp [List.getD,hA]
  · simp [List.getD,hm]
 rw [hs _ _ _ (by simp [swp_length,hj]),hs _ _ _ (by simp [swp_length,hj]),swp_get L i hj,swp_get L (i+1) hj]
 by_cases h1:L.length - 1 - i=j
 · rw [if_pos h1,if_pos (by omega),← h1,show L.length - 1 - (L.length - 1 - i)=i by omega]
 · rw [if_neg h1]
   by_cases h2:i=j
   · subst h2
     rw [if_pos rfl,if_pos (by omega)]
   · rw [if_neg h2]
     by_cases h3:j<i∨L.length<j+1+i
     · rw [if_pos h3,if_pos (by omega)]
     · rw [if_neg h3,if_neg (by omega)]
end Go.Gb
/- The reference's To: what its loops keep. No program is mentioned. -/
namespace Go.Gb
open Go
theorem word_top {xs:List Nat} (hx:∀ x ∈ xs,x<BB) {i:Nat} (hi:xs.length=i+1) (k:Nat):wval xs / 10 ^ (9 * i+k)=xs.getD i 0 / 10 ^ k:=by
 have h1:=wval_split xs i (by omega)
 have h2:wval (xs.drop i)=xs.getD i 0:=by
  rw [wval_drop (by omega),List.drop_of_length_le (by omega)]
  simp [wval]
 have hlt:=wval_take_lt xs hx i
 have hB:BB ^ i=10 ^ (9 * i):=by rw [Nat.pow_mul,show BB=10 ^ 9 from by rw [BB_eq]]
 rw [h2] at h1
 rw [h1,Nat.pow_add,← hB,← Nat.div_div_eq_div_mul,Nat.add_mul_div_left _ _ (Nat.pow_pos BB_pos),Nat.div_eq_of_lt hlt,Nat.zero_add]
def TOut (xs:List Nat) (bs:List UInt8) (i:Nat):Prop :=
 (i<xs.length∧bs=ldig (wval xs) (9 * i))∨(i=xs.length∧∃ m,bs=ldig (wval xs) (m+1)∧10 ^ m≤wval xs∧wval xs<10 ^ (m+1))
def TIn (xs:List Nat) (bs:List UInt8) (i k q:Nat):Prop :=
 k≤9∧q=xs.getD i 0 / 10 ^ k∧bs=ldig (wval xs) (9 * i+k)∧(k=0∨i+1<xs.length∨xs.getD i 0 / 10 ^ (k - 1)≠0)
theorem TOut.zero {xs:List Nat} (h:0<xs.length):TOut xs [] 0:=Or.inl ⟨h,rfl⟩
theorem TIn.start {xs:List Nat} {bs:List UInt8} {i:Nat} (h:TOut xs bs i) (hi:i<xs.length):TIn xs bs i 0 (xs.getD i 0):=by
 rcases h with ⟨_,h⟩|⟨h,_⟩
 · exact ⟨by omega,by simp,h,Or.inl rfl⟩
 · omega
theorem TIn.len {xs:List Nat} {bs:List UInt8} {i k q:Nat} (h:TIn xs bs i k q):bs.length=9 * i+k:=by rw [h.2.2.1,ldig_length]
theorem TIn.lt {xs:List Nat} {bs:List UInt8} {i k q:Nat} (h:TIn xs bs i k q) (hi:i<xs.length) (hx:∀ x ∈ xs,x<BB):q<1000000000:=by
 have h1:=hx _ (mem_getD hi)
 rw [BB_eq] at h1
 rw [h.2.1]
 exact Nat.lt_of_le_of_lt (Nat.div_le_self _ _) h1
theorem TIn.step {xs:List Nat} {bs:List UInt8} {i k q:Nat} (h:TIn xs bs i k q) (hi:i<xs.length) (hx:∀ x ∈ xs,x<BB) (hk:k<9) (hg:i+1<xs.length∨0<q) :
 TIn xs (bs ++ [UInt8.ofNat (48+q % 10)]) i (k+1) (q / 10):=by
 obtain ⟨h1,h2,h3,h4⟩:=h
 refine ⟨by omega,?_,?_,?_⟩
 · rw [h2,Nat.div_div_eq_div_mul,Nat.pow_succ]
 · rw [h3,h2,← word_digit hx hi hk,← ldig_succ]
   rfl
 · rcases hg with hg|hg
   · exact Or.inr (Or.inl hg)
   · right;right
     rw [Nat.add_sub_cancel,← h2]
     omega
theorem TIn.done {xs:List Nat} {bs:List UInt8} {i k q:Nat} (h:TIn xs bs i k q) (hi:i<xs.length) (hx:∀ x ∈ xs,x<BB) (hl:xs.getD (xs.length - 1) 0≠0) (hg:k=9∨(i+1=xs.length∧q=0)):TOut xs bs (i+1):=by
 obtain ⟨h1,h2,h3,h4⟩:=h
 by_cases hlt:i+1<xs.length
 · obtain rfl:k=9:=by omega
   exact Or.inl ⟨hlt,by rw [h3,Nat.mul_add]⟩
 · have hi1:xs.length=i+1:=by omega
   have hw:=hx _ (mem_getD hi)
   rw [BB_eq] at hw
   rw [show xs.length - 1=i by omega] at hl
   have hq0:q=0:=by
    rcases hg with hg|hg
    · rw [h2,hg,Nat.div_eq_of_lt (by omega)]
    · exact hg.2
   obtain ⟨j,rfl⟩:∃ j,k=j+1:=by
    refine ⟨k - 1,?_⟩
    rcases Nat.eq_zero_or_pos k with h0|h0
    · rw [h0,Nat.pow_zero,Nat.div_one] at h2
      omega
    · omega
   have h5:xs.getD i 0 / 10 ^ j≠0:=by
    rcases h4 with h4|h4|h4
    · omega
    · omega
    · rwa [Nat.add_sub_cancel] at h4
   have e1:=word_top hx hi1 j
   have e2:=word_top hx hi1 (j+1)
   rw [← h2,hq0] at e2
   refine Or.inr ⟨hi1.symm,9 * i+j,h3,?_,?_⟩
   · rcases Nat.lt_or_ge (wval xs) (10 ^ (9 * i+j)) with h|h
     · rw [Nat.div_eq_of_lt h] at e1
       exact absurd e1.symm h5
     · exact h
   · rcases Nat.lt_or_ge (wval xs) (10 ^ (9 * i+(j+1))) with h|h
     · exact h
     · have:=Nat.div_pos h (Nat.pow_pos (by decide))
       omega
theorem TOut.done {xs:List Nat} {bs:List UInt8} (h:TOut xs bs xs.length):bs.reverse=Lib.decDigits (wval xs)∧0<bs.length:=by
 rcases h with ⟨h,_⟩|⟨_,m,h1,h2,h3⟩
 · omega
 · rw [h1]
   exact ⟨ldig_reverse m _ h2 h3,by rw [ldig_length];omega⟩
theorem TOut.len {xs:List Nat} {bs:List UInt8} {i:Nat} (h:TOut xs bs i) (hx:∀ x ∈ xs,x<BB):bs.length≤9 * xs.length:=by
 rcases h with ⟨h,e⟩|⟨_,m,h1,h2,h3⟩
 · rw [e,ldig_length];omega
 · rw [h1,ldig_length]
   have h4:=wval_lt xs hx
   rw [show BB=10 ^ 9 from by rw [BB_eq],← Nat.pow_mul] at h4
   have h5:10 ^ m<10 ^ (9 * xs.length):=by omega
   have:=(Nat.pow_lt_pow_iff_right (by decide:1<10)).1 h5
   omega
end Go.Gb
/- A block of bytes whose first bytes are known. -/
namespace Go.Proofs.YtmigpoiajkihhaaGreatDoor
open Go.RowKit Go.Gb
def RowB (w:World) (g cap:Nat) (bs:List UInt8):Prop:=∃ cur:Array Value,w.heap[g]? = some (.cells cur 5 (0,0))∧cur.size=cap∧bs.length≤cap∧cur.toList.take bs.length=Lib.byteCells bs
theorem byteCells_get {bs:List UInt8} {i:Nat} (h:i<bs.length):(Lib.byteCells bs)[i]? = some (.int .u8 ((bs.getD i 0).toNat:Int)):=by
 simp [Lib.byteCells,List.getD,h]
theorem RowB.cell {w:World} {g cap:Nat} {bs:List UInt8} (h:RowB w g cap bs) {i:Nat} (hi:i<bs.length):w.cell? ⟨g,i,none⟩=some (.int .u8 ((bs.getD i 0).toNat:Int)):=by
 obtain ⟨cur,h1,h2,h3,h4⟩:=h
 have h5:=byteCells_get hi
 rw [← h4,List.getElem?_take,if_pos hi] at h5
 simp only [World.cell?,h1]
 simpa using h5
theorem RowB.free {w:World} {g cap:Nat} {bs:List UInt8} (h:RowB w g cap bs) (i:Nat):w.frozen? ⟨g,i,none⟩=false:=by
 obtain ⟨cur,h1,h2,h3,h4⟩:=h
 simp only [World.frozen?,h1]
 simp
theorem RowB.set {w:World} {g cap:Nat} {bs:List UInt8} (h:RowB w g cap bs) (i:Nat) (v:UInt8):RowB (w.setCell ⟨g,i,none⟩ (.int .u8 (v.toNat:Int))) g cap (bs.set i v):=by
 obtain ⟨cur,h1,h2,h3,h4⟩:=h
 refine ⟨cur.setIfInBounds i (.int .u8 (v.toNat:Int)),?_,by simp [h2],by simpa using h3,?_⟩
 · simp only [World.setCell,Array.getElem?_modify,h1]
   simp
 · rw [List.length_set,Lib.byteCells,List.map_set,Array.toList_setIfInBounds,List.take_set,h4]
   rfl
theorem RowB.of_own {w:World} {B:Nat} {v:Value} {bs:List UInt8} (h:w.ownsRow B 5 1 v bs.length (Lib.byteCells bs)) (hp:0<bs.length):∃ g cap,v=.slice (some ⟨g,0,none⟩) bs.length cap∧B≤g∧cap≤maxLen∧RowB w g cap bs:=by
 obtain ⟨h1,h2⟩:=h
 rcases h2 with ⟨h2,h3⟩|⟨g,cap,cur,hv,hg,hh,hn,hc,hs,ht⟩
 · omega
 · rw [Nat.mul_one] at hs ht
   exact ⟨g,cap,hv,hg,hc,cur,hh,hs,hn,ht⟩
end Go.Proofs.YtmigpoiajkihhaaGreatDoor
