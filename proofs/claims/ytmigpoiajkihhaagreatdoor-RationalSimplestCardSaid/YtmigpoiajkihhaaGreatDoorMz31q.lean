/- Texts of this proof, one behind the other. -/
import Derived.Test.YtmigpoiajkihhaaGreatDoorQm
set_option maxRecDepth 100000
set_option maxHeartbeats 20000000
open Go.Lib (hid)
namespace Go.Proofs.YtmigpoiajkihhaaGreatDoor
open Go.RowKit Go.Gb
theorem z2G:Sq (1/2:Rat)=⟨#[49,47,50]⟩:=by decide +kernel
theorem z3M:Sq (1/3:Rat)=⟨#[49,47,51]⟩:=by decide +kernel
theorem z4n:Sq (5/6:Rat)=⟨#[53,47,54]⟩:=by decide +kernel
theorem z4p:Sq (3/4:Rat)=⟨#[51,47,52]⟩:=by decide +kernel
theorem z2j:Sq (-3/2:Rat)=⟨#[45,51,47,50]⟩:=by decide +kernel
theorem z2k:Sq (-1/2:Rat)=⟨#[45,49,47,50]⟩:=by decide +kernel
theorem z4r:Sq (2/3:Rat)=⟨#[50,47,51]⟩:=by decide +kernel
theorem z4q:Sq (3/2:Rat)=⟨#[51,47,50]⟩:=by decide +kernel
theorem q_0:Sq (0:Rat)=⟨#[48]⟩:=by decide +kernel
theorem q_1:Sq (1:Rat)=⟨#[49]⟩:=by decide +kernel
theorem z3K:Sq (-3/4:Rat)=⟨#[45,51,47,52]⟩:=by decide +kernel
theorem z4o:Sq (5/2:Rat)=⟨#[53,47,50]⟩:=by decide +kernel
theorem z3L:Sq (-2/3:Rat)=⟨#[45,50,47,51]⟩:=by decide +kernel
theorem z3G (w:World)(hl:La w):CR 17 #[.string ⟨#[49,47,50]⟩,.string ⟨#[49,47,51]⟩] w (.tuple #[.string ⟨#[53,47,54]⟩,.int .i64 0]):=by
 have h:=z4v (1/2:Rat) (1/3:Rat) (5/6:Rat) (by decide +kernel) (aZ (by decide +kernel) (by decide +kernel)) (aZ (by decide +kernel) (by decide +kernel)) (by unfold Sma;decide +kernel) w hl
 rw[z2G,z3M,z4n]at h
 exact h
theorem z3C (w:World)(hl:La w):CR 19 #[.string ⟨#[49,47,50]⟩,.string ⟨#[49,47,50]⟩] w (.tuple #[.string ⟨#[48]⟩,.int .i64 0]):=by
 have h:=z4s (1/2:Rat) (1/2:Rat) (0:Rat) (by decide +kernel) (aZ (by decide +kernel) (by decide +kernel)) (aZ (by decide +kernel) (by decide +kernel)) (by unfold Sma;decide +kernel) w hl
 rw[z2G,q_0]at h
 exact h
theorem z3D (w:World)(hl:La w):CR 21 #[.string ⟨#[50,47,51]⟩,.string ⟨#[51,47,50]⟩] w (.tuple #[.string ⟨#[49]⟩,.int .i64 0]):=by
 have h:=z4t (2/3:Rat) (3/2:Rat) (1:Rat) (by decide +kernel) (aZ (by decide +kernel) (by decide +kernel)) (aZ (by decide +kernel) (by decide +kernel)) (by unfold Sma;decide +kernel) w hl
 rw[z4r,z4q,q_1]at h
 exact h
theorem z3E (w:World)(hl:La w):CR 23 #[.string ⟨#[51,47,52]⟩,.string ⟨#[45,51,47,50]⟩] w (.tuple #[.string ⟨#[45,49,47,50]⟩,.int .i64 0]):=by
 have h:=z4u (3/4:Rat) (-3/2:Rat) (-1/2:Rat) (by decide +kernel) (aZ (by decide +kernel) (by decide +kernel)) (aZ (by decide +kernel) (by decide +kernel)) (by decide +kernel) (by unfold Sma;decide +kernel) w hl
 rw[z4p,z2j,z2k]at h
 exact h
theorem z3F (w:World)(hl:La w):CR 15 #[.string ⟨#[49,47,51]⟩,.string ⟨#[49,47,50]⟩] w (.tuple #[.int .i64 (-1),.int .i64 0]):=by
 have h:=zq (1/3:Rat) (1/2:Rat) (-1) (by decide +kernel) (aZ (by decide +kernel) (by decide +kernel)) (aZ (by decide +kernel) (by decide +kernel)) (by unfold Sma;decide +kernel) w hl
 rw[z3M,z2G]at h
 exact h
theorem z0T (w:World)(hl:La w):CR 25 #[.string ⟨#[45,49,47,50]⟩] w (.tuple #[.string ⟨#[45,49]⟩,.int .i64 0]):=by
 have h:=z3I (-1/2:Rat) (aZ (by decide +kernel) (by decide +kernel)) w hl
 rw[z2k,show Sz (((-1/2:Rat)).num / (((-1/2:Rat)).den:Int))=⟨#[45,49]⟩by decide +kernel]at h
 exact h
theorem z0R (w:World)(hl:La w):CR 11 #[.string ⟨#[45,51,47,50]⟩] w (.tuple #[.string ⟨#[45,51]⟩,.string ⟨#[50]⟩,.int .i64 0]):=by
 have h:=z3H (-3/2:Rat) (aZ (by decide +kernel) (by decide +kernel)) w hl
 rw[z2j,show Sz ((-3/2:Rat)).num=⟨#[45,51]⟩by decide +kernel,show Sz (((-3/2:Rat)).den:Int)=⟨#[50]⟩by decide +kernel]at h
 exact h
theorem z2D (w:World)(hl:La w):CR 9 #[.string ⟨#[54]⟩,.string ⟨#[45,52]⟩] w (.tuple #[.string ⟨#[45,51,47,50]⟩,.int .i64 0]):=by
 have h:=z3N 6 (-4) (by decide) (flS (by decide)) (flS (by decide)) w hl
 rw[show Sz 6=⟨#[54]⟩by decide +kernel,show Sz (-4)=⟨#[45,52]⟩by decide +kernel,show Sq (Rat.divInt 6 (-4))=⟨#[45,51,47,50]⟩by decide +kernel]at h
 exact h
theorem z4m (w:World)(hl:La w):CR 13 #[.string ⟨#[45,51,47,52]⟩] w (.bool true):=by
 have h:=xG (-3/4:Rat) (aZ (by decide +kernel) (by decide +kernel)) w hl
 rw[z3K]at h
 exact h
theorem z4l (w:World)(hl:La w):CR 13 #[.string ⟨#[50,47,52]⟩] w (.bool false):=mK _ (by decide +kernel) (by decide) w hl
theorem z4k (w:World)(hl:La w):CR 13 #[.string ⟨#[]⟩] w (.bool false):=mK _ (by decide +kernel) (by decide) w hl
theorem z2F (w:World)(hl:La w):CR 27 #[.string ⟨#[45,50,47,51]⟩,.int .i64 2] w (.tuple #[.string ⟨#[45,48,46,54,55]⟩,.int .i64 0]):=by
 have h1:=fun W hW=>fA (-2/3) (aZ (by decide +kernel) (by decide +kernel)) W hW
 rw[z3L,(qnd (-2/3) (-2) 3 ⟨#[45,50,47,51]⟩ ⟨#[45,50]⟩ ⟨#[51]⟩ (by decide +kernel)).2]at h1
 have h2:=fun W=>yY 2 (by decide) W
 rw[show Sz ((10^2:Nat):Int)=⟨#[49,48,48]⟩by decide +kernel]at h2
 have h3:=fun W hW=>mJ (-2) 100 (-200) (by decide) (flT (by decide)) (flT (by decide)) (flT (by decide)) W hW
 rw[show Sz (-2)=⟨#[45,50]⟩by decide +kernel,show Sz 100=⟨#[49,48,48]⟩by decide +kernel,show Sz (-200)=⟨#[45,50,48,48]⟩by decide +kernel]at h3
 have h4:=fun W hW=>wE (-200) 3 (by decide) ((show Sm 3 200 by unfold Sm;decide).mono (by decide)) ((show Sm 3 3 by unfold Sm;decide).mono (by decide)) W hW
 rw[show Sz (z1j (-200) 3)=⟨#[45,54,55]⟩by decide +kernel,show Sz 3=⟨#[51]⟩by decide +kernel,show Sz (-200)=⟨#[45,50,48,48]⟩by decide +kernel]at h4
 have h5:=fun W=>zB ⟨#[45,54,55]⟩ ⟨#[54,55]⟩ 2 (by decide) (by decide) (by decide) W (fun W=>qF [54,55] W)
 rw[show(⟨#[45]⟩++mQ (⟨#[54,55]⟩:ByteArray).data.toList 2:ByteArray)=⟨#[45,48,46,54,55]⟩by decide +kernel]at h5
 exact nA _ _ _ _ _ _ _ 2 (by decide) (by decide) w hl h1 h2 h3 h4 h5
theorem z2E (w:World)(hl:La w):CR 27 #[.string ⟨#[53,47,50]⟩,.int .i64 0] w (.tuple #[.string ⟨#[51]⟩,.int .i64 0]):=by
 have h1:=fun W hW=>fA (5/2) (aZ (by decide +kernel) (by decide +kernel)) W hW
 rw[z4o,(qnd (5/2) 5 2 ⟨#[53,47,50]⟩ ⟨#[53]⟩ ⟨#[50]⟩ (by decide +kernel)).2]at h1
 have h2:=fun W=>yY 0 (by decide) W
 rw[show Sz ((10^0:Nat):Int)=⟨#[49]⟩by decide +kernel]at h2
 have h3:=fun W hW=>mJ 5 1 5 (by decide) (flT (by decide)) (flT (by decide)) (flT (by decide)) W hW
 rw[show Sz 5=⟨#[53]⟩by decide +kernel,show Sz 1=⟨#[49]⟩by decide +kernel]at h3
 have h4:=fun W hW=>wE 5 2 (by decide) ((show Sm 3 5 by unfold Sm;decide).mono (by decide)) ((show Sm 3 2 by unfold Sm;decide).mono (by decide)) W hW
 rw[show Sz (z1j 5 2)=⟨#[51]⟩by decide +kernel,show Sz 5=⟨#[53]⟩by decide +kernel,show Sz 2=⟨#[50]⟩by decide +kernel]at h4
 exact nA _ _ _ _ _ _ _ 0 (by decide) (by decide) w hl h1 h2 h3 h4 (fun W=>xN _ W)
theorem xZ {P:Program}{f:Nat}{args:Array Value}{W:World}{r:Value}(h:Calls P f args W fun e w'=>e=.returned r∧W=w'):Calls P f args W fun e w'=>e=.returned r∧Below W.heap.size W w' :=
 h.mono (fun _ _ ⟨h1,h2⟩=>⟨h1,h2▸Below.refl _ _⟩)
theorem vw {P:Program}{f:Nat}{args:Array Value}{W:World}{r:Value}(h:Calls P f args W fun e w'=>e=.returned r∧w'=W):Calls P f args W fun e w'=>e=.returned r∧Below W.heap.size W w' :=
 h.mono (fun _ _ ⟨h1,h2⟩=>⟨h1,h2▸Below.refl _ _⟩)
theorem z0S (w:World)(hl:La w):CR 29 #[.string ⟨#[48,46,50,53,48]⟩] w (.tuple #[.string ⟨#[49,47,52]⟩,.int .i64 0]):=by
 have h1:=fun W hW=>mK ⟨#[48,46,50,53,48]⟩ (by decide +kernel) (by decide) W hW
 have h2:=fun W=>xZ (vg ⟨#[48,46,50,53,48]⟩ (by intro t h;exact absurd (congrArg List.head? h) (by simp)) W)
 have h3:=fun W=>cut1 46 ⟨#[48,46,50,53,48]⟩ (by decide) W
 rw[show Lib.cut (⟨#[48,46,50,53,48]⟩:ByteArray).data.toList [46]=([48],[50,53,48],true) by decide +kernel]at h3
 have h4:=fun W=>zk ⟨#[48]⟩ (by simp only[toList_data];decide) (by decide) (by decide) W
 have h5:=fun W=>zk ⟨#[50,53,48]⟩ (by simp only[toList_data];decide) (by decide) (by decide) W
 have h6:=fun W=>vw (Tryz.strings_TrimLeft_one ⟨#[48,50,53,48]⟩ 48 (by decide) W)
 rw[show(⟨(Lib.trimLeftB (⟨#[48,50,53,48]⟩:ByteArray).data.toList 48).toArray⟩:ByteArray)=⟨#[50,53,48]⟩by decide +kernel]at h6
 have h7:=fun W=>yY 3 (by decide) W
 rw[show Sz ((10^3:Nat):Int)=⟨#[49,48,48,48]⟩by decide +kernel]at h7
 have h8:=fun W hW=>z3N 250 1000 (by decide) (flT (by decide)) (FitL.of (k:=4) (show Sm 4 1000 by unfold Sm;decide) (by decide)) W hW
 rw[show Sz 250=⟨#[50,53,48]⟩by decide +kernel,show Sz 1000=⟨#[49,48,48,48]⟩by decide +kernel,show Sq (Rat.divInt 250 1000)=⟨#[49,47,52]⟩by decide +kernel]at h8
 exact qj _ _ ⟨#[48]⟩ ⟨#[50,53,48]⟩ ⟨#[50,53,48]⟩ ⟨#[49,48,48,48]⟩ _ 0 (by simp only[toList_data];decide) (by decide) (by decide) (by decide) w hl h1 h2 h3 h4 h5 h6 h7 h8
theorem mM (w:World)(hl:La w):CR 7 #[] w (.bool true):=by
 have HT:=hid hl
 clear hl
 go_enter Tryz.func7,Tryz.ntmps7
 have HB0:=hid (Below.refl w.heap.size w)
 go_wp2_with fail
 refine(z3G _ (HT.out.on HB0.out)).mono ?_
 rintro e w1 ⟨rfl,hb⟩
 have HB1:=hbt HB0 hb
 clear hb
 go_wp2_with fail
 refine(z3E _ (HT.out.on HB1.out)).mono ?_
 rintro e w2 ⟨rfl,hb⟩
 have HB2:=hbt HB1 hb
 clear hb
 go_wp2_with fail
 refine(z0T _ (HT.out.on HB2.out)).mono ?_
 rintro e w3 ⟨rfl,hb⟩
 have HB3:=hbt HB2 hb
 clear hb
 go_wp2_with fail
 refine(z2F _ (HT.out.on HB3.out)).mono ?_
 rintro e w4 ⟨rfl,hb⟩
 have HB4:=hbt HB3 hb
 clear hb
 go_wp2_with fail
 refine(z2E _ (HT.out.on HB4.out)).mono ?_
 rintro e w5 ⟨rfl,hb⟩
 have HB5:=hbt HB4 hb
 clear hb
 go_wp2_with fail
 refine(z0S _ (HT.out.on HB5.out)).mono ?_
 rintro e w6 ⟨rfl,hb⟩
 have HB6:=hbt HB5 hb
 clear hb
 go_wp2_with fail
 refine(qN _ (HT.out.on HB6.out)).mono ?_
 rintro e w7 ⟨rfl,hb⟩
 have HB7:=hbt HB6 hb
 clear hb
 go_wp2_with fail
 refine(qM _ (HT.out.on HB7.out)).mono ?_
 rintro e w8 ⟨rfl,hb⟩
 have HB8:=hbt HB7 hb
 clear hb
 go_wp2_with fail
 refine(z2D _ (HT.out.on HB8.out)).mono ?_
 rintro e w9 ⟨rfl,hb⟩
 have HB9:=hbt HB8 hb
 clear hb
 go_wp2_with fail
 refine(z0R _ (HT.out.on HB9.out)).mono ?_
 rintro e w10 ⟨rfl,hb⟩
 have HB10:=hbt HB9 hb
 clear hb
 go_wp2_with fail
 refine(z3F _ (HT.out.on HB10.out)).mono ?_
 rintro e w11 ⟨rfl,hb⟩
 have HB11:=hbt HB10 hb
 clear hb
 go_wp2_with fail
 refine(z3C _ (HT.out.on HB11.out)).mono ?_
 rintro e w12 ⟨rfl,hb⟩
 have HB12:=hbt HB11 hb
 clear hb
 go_wp2_with fail
 refine(z3D _ (HT.out.on HB12.out)).mono ?_
 rintro e w13 ⟨rfl,hb⟩
 have HB13:=hbt HB12 hb
 clear hb
 go_wp2_with fail
 refine(z4m _ (HT.out.on HB13.out)).mono ?_
 rintro e w14 ⟨rfl,hb⟩
 have HB14:=hbt HB13 hb
 clear hb
 go_wp2_with fail
 refine(z4l _ (HT.out.on HB14.out)).mono ?_
 rintro e w15 ⟨rfl,hb⟩
 have HB15:=hbt HB14 hb
 clear hb
 go_wp2_with fail
 refine(z4k _ (HT.out.on HB15.out)).mono ?_
 rintro e w16 ⟨rfl,hb⟩
 have HB16:=hbt HB15 hb
 clear hb
 go_wp2
 go_ret
 exact⟨rfl,HB16.out⟩
open Go.RowKit Go.Gb
theorem z3S (g:Nat)(a:ByteArray)(w:World)(hab:60<a.size)(hc:w.cell? ⟨g,0,none⟩=some (.string a)) :
 Calls Tryz.prog 8 #[.slice (some ⟨g,0,none⟩) 1 1] w fun e w'=>e=.returned (.bool true)∧w=w':=by
 have c0:=hc
 clear hc
 have ka:(60:Int)<(a.size:Int):=by omega
 clear hab
 go_enter Tryz.func8,Tryz.ntmps8
 go_wp2
 refine wp_loop_rounds 2 ?_
 rw[rounds_succ]
 go_wp2
 go_ret
 exact⟨rfl,rfl⟩
theorem eT (w:World)(a b:ByteArray):(w.alloc (.cells #[.string a,.string b] 22)).cell? ⟨w.heap.size,0,none⟩=some (.string a)∧(w.alloc (.cells #[.string a,.string b] 22)).cell? ⟨w.heap.size,1,none⟩=some (.string b):=by
 refine⟨?_,?_⟩<;>simp
theorem ko (g:Nat)(a b:ByteArray)(w:World)(ha:a.size≤60)(hb:b.size≤60)(hc:w.cell? ⟨g,0,none⟩=some (.string a)∧w.cell? ⟨g,1,none⟩=some (.string b)) :
 Calls Tryz.prog 8 #[.slice (some ⟨g,0,none⟩) 2 2] w fun e w'=>e=.returned (.bool false)∧w=w':=by
 obtain⟨c0,c1⟩:=hc
 have ka:¬ (60:Int)<(a.size:Int):=by omega
 have kb:¬ (60:Int)<(b.size:Int):=by omega
 go_enter Tryz.func8,Tryz.ntmps8
 go_wp2
 refine wp_loop_rounds 3 ?_
 rw[rounds_succ]
 go_wp2
 rw[rounds_succ]
 go_wp2
 rw[rounds_succ]
 go_wp2
 go_ret
 exact⟨rfl,rfl⟩
theorem zN (g:Nat)(a b:ByteArray)(w:World)(hab:60<a.size∨60<b.size)(hc:w.cell? ⟨g,0,none⟩=some (.string a)∧w.cell? ⟨g,1,none⟩=some (.string b)) :
 Calls Tryz.prog 8 #[.slice (some ⟨g,0,none⟩) 2 2] w fun e w'=>e=.returned (.bool true)∧w=w':=by
 obtain⟨c0,c1⟩:=hc
 by_cases ha:60<a.size
 · have ka:(60:Int)<(a.size:Int):=by omega
   clear hab
   go_enter Tryz.func8,Tryz.ntmps8
   go_wp2
   refine wp_loop_rounds 3 ?_
   rw[rounds_succ]
   go_wp2
   go_ret
   exact⟨rfl,rfl⟩
 · have ka:¬ (60:Int)<(a.size:Int):=by omega
   have kb:(60:Int)<(b.size:Int):=by omega
   clear hab
   go_enter Tryz.func8,Tryz.ntmps8
   go_wp2
   refine wp_loop_rounds 3 ?_
   rw[rounds_succ]
   go_wp2
   rw[rounds_succ]
   go_wp2
   go_ret
   exact⟨rfl,rfl⟩
end Go.Proofs.YtmigpoiajkihhaaGreatDoor
namespace Go.Gb
open Go
def ldig (v m:Nat):List UInt8:=(List.range m).map fun t=>UInt8.ofNat (48+v / 10^t%10)
theorem iK (v m:Nat):(ldig v m).length=m:=by simp[ldig]
theorem zP (v m:Nat):ldig v (m+1)=ldig v m++[UInt8.ofNat (48+v / 10^m%10)]:=by
 unfold ldig
 rw[List.range_succ]
 simp
theorem sN (v m:Nat):ldig v (m+1)=UInt8.ofNat (48+v%10) :: ldig (v / 10) m:=by
 unfold ldig
 rw[List.range_succ_eq_map]
 simp only[List.map_cons,List.map_map,Nat.pow_zero,Nat.div_one]
 congr 1
 apply List.map_congr_left
 intro t _
 simp only[Function.comp,Nat.div_div_eq_div_mul,Nat.pow_succ,Nat.mul_comm]
theorem lJ:∀ (m v:Nat),10^m≤v→v<10^(m+1)→(ldig v (m+1)).reverse=Lib.decDigits v
 | 0,v,h1,h2=>by
   rw[sN]
   have hv:v<10:=by simpa using h2
   have h0:1≤v:=by simpa using h1
   rw[Nat.mod_eq_of_lt hv]
   rw[Lib.decDigits,dif_pos hv]
   simp[ldig]
 | m+1,v,h1,h2=>by
   rw[sN,List.reverse_cons,lJ m (v / 10) (by rw[Nat.le_div_iff_mul_le (by decide)];rw[Nat.pow_succ]at h1;exact h1) (by rw[Nat.div_lt_iff_lt_mul (by decide)];rw[Nat.pow_succ]at h2;exact h2)]
   have hv:¬ v<10:=by
    have:10≤10^(m+1):=by
     rw[Nat.pow_succ]
     have:=Nat.one_le_pow m 10 (by decide)
     omega
    omega
   conv=>rhs;rw[Lib.decDigits,dif_neg hv]
theorem xg {xs:List Nat}(hx:∀ x∈xs,x<BB){i k:Nat}(hi:i<xs.length)(hk:k<9):ai xs / 10^(9*i+k)%10=xs.getD i 0 / 10^k%10:=by
 have hsplit:xs=xs.take i++(xs.getD i 0 :: xs.drop (i+1)):=by
  conv=>lhs;rw[← List.take_append_drop i xs]
  congr 1
  rw[List.drop_eq_getElem_cons hi]
  simp[List.getD,hi]
 have hlen:(xs.take i).length=i:=by simp;omega
 have hlt:=dG (xs.take i) (fun x h=>hx x (List.mem_of_mem_take h))
 rw[hlen]at hlt
 have hv:ai xs=ai (xs.take i)+BB^i*(xs.getD i 0+BB*ai (xs.drop (i+1))):=by
  conv=>lhs;rw[hsplit]
  rw[dJ,hlen]
  rfl
 have hB:BB^i=10^(9*i):=by rw[Nat.pow_mul,show BB=10^9 from by rw[aA]]
 rw[hv,Nat.pow_add,← hB,← Nat.div_div_eq_div_mul,Nat.add_mul_div_left _ _ (Nat.pow_pos bC),Nat.div_eq_of_lt hlt,Nat.zero_add]
 obtain⟨e,he⟩:∃ e,BB=10^k*(10*e):=⟨10^(8-k),by
  rw[show(10:Nat)*10^(8-k)=10^(9-k) by rw[← Nat.pow_succ'];congr 1;omega,← Nat.pow_add,show k+(9-k)=9 by omega,aA]⟩
 rw[he,Nat.mul_assoc,Nat.mul_assoc,Nat.add_mul_div_left _ _ (Nat.pow_pos (by decide)),Nat.add_mul_mod_self_left]
end Go.Gb
namespace Go.Gb
open Go
def swp (L:List UInt8) (i:Nat):List UInt8:=(List.range L.length).map fun j=>if j<i∨L.length<j+1+i then L.getD (L.length-1-j) 0 else L.getD j 0
theorem dE (L:List UInt8)(i:Nat):(swp L i).length=L.length:=by simp[swp]
theorem swp_get (L:List UInt8)(i:Nat){j:Nat}(hj:j<L.length):(swp L i).getD j 0=if j<i∨L.length<j+1+i then L.getD (L.length-1-j) 0 else L.getD j 0:=by
 unfold swp
 simp[List.getD,hj]
theorem qA {A B:List UInt8}(h:A.length=B.length)(hg:∀ j,j<A.length→A.getD j 0=B.getD j 0):A=B:=by
 apply List.ext_getElem h
 intro j h1 h2
 have:=hg j h1
 simpa [List.getD,h1,h2] using this
theorem z0C (L:List UInt8):swp L 0=L:=by
 refine qA (dE L 0) (fun j hj=>?_)
 rw[dE]at hj
 rw[swp_get L 0 hj,if_neg (by omega)]
theorem z0F (L:List UInt8)(i:Nat)(h:L.length≤2*i+1):swp L i=L.reverse:=by
 refine qA (by rw[dE,List.length_reverse]) (fun j hj=>?_)
 rw[dE]at hj
 rw[swp_get L i hj]
 have hr:L.reverse.getD j 0=L.getD (L.length-1-j) 0:=by
  have h2:L.length-1-j<L.length:=by omega
  simp[List.getD,hj,h2]
 rw[hr]
 split
 · rfl
 · rename_i hn
   rw[show L.length-1-j=j by omega]
theorem z2w (L:List UInt8)(i:Nat)(h:2*i+1<L.length):(swp L i).getD i 0=L.getD i 0:=by
 rw[swp_get L i (by omega),if_neg (by omega)]
theorem z0E (L:List UInt8)(i:Nat)(h:2*i+1<L.length):(swp L i).getD (L.length-1-i) 0=L.getD (L.length-1-i) 0:=by
 rw[swp_get L i (by omega),if_neg (by omega)]
theorem z0D (L:List UInt8)(i:Nat)(h:2*i+1<L.length):((swp L i).set i (L.getD (L.length-1-i) 0)).set (L.length-1-i) (L.getD i 0)=swp L (i+1):=by
 refine qA (by simp[dE]) (fun j hj=>?_)
 simp[dE]at hj
 have hs:∀ (A:List UInt8) (m:Nat) (v:UInt8),j<A.length→(A.set m v).getD j 0=if m=j then v else A.getD j 0:=by
  intro A m v hA
  by_cases hm:m=j
  · subst hm;simp[List.getD,hA]
  · simp[List.getD,hm]
 rw[hs _ _ _ (by simp[dE,hj]),hs _ _ _ (by simp[dE,hj]),swp_get L i hj,swp_get L (i+1) hj]
 by_cases h1:L.length-1-i=j
 · rw[if_pos h1,if_pos (by omega),← h1,show L.length-1-(L.length-1-i)=i by omega]
 · rw[if_neg h1]
   by_cases h2:i=j
   · subst h2
     rw[if_pos rfl,if_pos (by omega)]
   · rw[if_neg h2]
     by_cases h3:j<i∨L.length<j+1+i
     · rw[if_pos h3,if_pos (by omega)]
     · rw[if_neg h3,if_neg (by omega)]
end Go.Gb
namespace Go.Gb
open Go
theorem vU {xs:List Nat}(hx:∀ x∈xs,x<BB){i:Nat}(hi:xs.length=i+1)(k:Nat):ai xs / 10^(9*i+k)=xs.getD i 0 / 10^k:=by
 have h1:=bW xs i (by omega)
 have h2:ai (xs.drop i)=xs.getD i 0:=by
  rw[fe (by omega),List.drop_of_length_le (by omega)]
  simp[ai]
 have hlt:=iR xs hx i
 have hB:BB^i=10^(9*i):=by rw[Nat.pow_mul,show BB=10^9 from by rw[aA]]
 rw[h2]at h1
 rw[h1,Nat.pow_add,← hB,← Nat.div_div_eq_div_mul,Nat.add_mul_div_left _ _ (Nat.pow_pos bC),Nat.div_eq_of_lt hlt,Nat.zero_add]
def TOut (xs:List Nat) (bs:List UInt8) (i:Nat):Prop :=
 (i<xs.length∧bs=ldig (ai xs) (9*i))∨(i=xs.length∧∃ m,bs=ldig (ai xs) (m+1)∧10^m≤ai xs∧ai xs<10^(m+1))
def TIn (xs:List Nat) (bs:List UInt8) (i k q:Nat):Prop :=
 k≤9∧q=xs.getD i 0 / 10^k∧bs=ldig (ai xs) (9*i+k)∧(k=0∨i+1<xs.length∨xs.getD i 0 / 10^(k-1)≠0)
theorem TOut.zero {xs:List Nat}(h:0<xs.length):TOut xs [] 0:=Or.inl ⟨h,rfl⟩
theorem TIn.start {xs:List Nat}{bs:List UInt8}{i:Nat}(h:TOut xs bs i)(hi:i<xs.length):TIn xs bs i 0 (xs.getD i 0):=by
 rcases h with⟨_,h⟩|⟨h,_⟩
 · exact⟨by omega,by simp,h,Or.inl rfl⟩
 · omega
theorem TIn.len {xs:List Nat}{bs:List UInt8}{i k q:Nat}(h:TIn xs bs i k q):bs.length=9*i+k:=by rw[h.2.2.1,iK]
theorem TIn.lt {xs:List Nat}{bs:List UInt8}{i k q:Nat}(h:TIn xs bs i k q)(hi:i<xs.length)(hx:∀ x∈xs,x<BB):q<1000000000:=by
 have h1:=hx _ (aQ hi)
 rw[aA]at h1
 rw[h.2.1]
 exact Nat.lt_of_le_of_lt (Nat.div_le_self _ _) h1
theorem TIn.step {xs:List Nat}{bs:List UInt8}{i k q:Nat}(h:TIn xs bs i k q)(hi:i<xs.length)(hx:∀ x∈xs,x<BB)(hk:k<9)(hg:i+1<xs.length∨0<q) :
 TIn xs (bs++[UInt8.ofNat (48+q%10)]) i (k+1) (q / 10):=by
 obtain⟨h1,h2,h3,h4⟩:=h
 refine⟨by omega,?_,?_,?_⟩
 · rw[h2,Nat.div_div_eq_div_mul,Nat.pow_succ]
 · rw[h3,h2,← xg hx hi hk,← zP]
   rfl
 · rcases hg with hg|hg
   · exact Or.inr (Or.inl hg)
   · right;right
     rw[Nat.add_sub_cancel,← h2]
     omega
theorem TIn.done {xs:List Nat}{bs:List UInt8}{i k q:Nat}(h:TIn xs bs i k q)(hi:i<xs.length)(hx:∀ x∈xs,x<BB)(hl:xs.getD (xs.length-1) 0≠0)(hg:k=9∨(i+1=xs.length∧q=0)):TOut xs bs (i+1):=by
 obtain⟨h1,h2,h3,h4⟩:=h
 by_cases hlt:i+1<xs.length
 · obtain rfl:k=9:=by omega
   exact Or.inl ⟨hlt,by rw[h3,Nat.mul_add]⟩
 · have hi1:xs.length=i+1:=by omega
   have hw:=hx _ (aQ hi)
   rw[aA]at hw
   rw[show xs.length-1=i by omega]at hl
   have hq0:q=0:=by
    rcases hg with hg|hg
    · rw[h2,hg,Nat.div_eq_of_lt (by omega)]
    · exact hg.2
   obtain⟨j,rfl⟩:∃ j,k=j+1:=by
    refine⟨k-1,?_⟩
    rcases Nat.eq_zero_or_pos k with h0|h0
    · rw[h0,Nat.pow_zero,Nat.div_one]at h2
      omega
    · omega
   have h5:xs.getD i 0 / 10^j≠0:=by
    rcases h4 with h4|h4|h4
    · omega
    · omega
    · rwa [Nat.add_sub_cancel]at h4
   have e1:=vU hx hi1 j
   have e2:=vU hx hi1 (j+1)
   rw[← h2,hq0]at e2
   refine Or.inr ⟨hi1.symm,9*i+j,h3,?_,?_⟩
   · rcases Nat.lt_or_ge (ai xs) (10^(9*i+j)) with h|h
     · rw[Nat.div_eq_of_lt h]at e1
       exact absurd e1.symm h5
     · exact h
   · rcases Nat.lt_or_ge (ai xs) (10^(9*i+(j+1))) with h|h
     · exact h
     · have:=Nat.div_pos h (Nat.pow_pos (by decide))
       omega
theorem TOut.done {xs:List Nat}{bs:List UInt8}(h:TOut xs bs xs.length):bs.reverse=Lib.decDigits (ai xs)∧0<bs.length:=by
 rcases h with⟨h,_⟩|⟨_,m,h1,h2,h3⟩
 · omega
 · rw[h1]
   exact⟨lJ m _ h2 h3,by rw[iK];omega⟩
theorem TOut.len {xs:List Nat}{bs:List UInt8}{i:Nat}(h:TOut xs bs i)(hx:∀ x∈xs,x<BB):bs.length≤9*xs.length:=by
 rcases h with⟨h,e⟩|⟨_,m,h1,h2,h3⟩
 · rw[e,iK];omega
 · rw[h1,iK]
   have h4:=dG xs hx
   rw[show BB=10^9 from by rw[aA],← Nat.pow_mul]at h4
   have h5:10^m<10^(9*xs.length):=by omega
   have:=(Nat.pow_lt_pow_iff_right (by decide:1<10)).1 h5
   omega
end Go.Gb
namespace Go.Proofs.YtmigpoiajkihhaaGreatDoor
open Go.RowKit Go.Gb
def RowB (w:World) (g cap:Nat) (bs:List UInt8):Prop:=∃ cur:Array Value,w.heap[g]? = some (.cells cur 5 (0,0))∧cur.size=cap∧bs.length≤cap∧cur.toList.take bs.length=Lib.byteCells bs
theorem qK {bs:List UInt8}{i:Nat}(h:i<bs.length):(Lib.byteCells bs)[i]? = some (.int .u8 ((bs.getD i 0).toNat:Int)):=by
 simp[Lib.byteCells,List.getD,h]
theorem RowB.cell {w:World}{g cap:Nat}{bs:List UInt8}(h:RowB w g cap bs){i:Nat}(hi:i<bs.length):w.cell? ⟨g,i,none⟩=some (.int .u8 ((bs.getD i 0).toNat:Int)):=by
 obtain⟨cur,h1,h2,h3,h4⟩:=h
 have h5:=qK hi
 rw[← h4,List.getElem?_take,if_pos hi]at h5
 simp only[World.cell?,h1]
 simpa using h5
theorem RowB.free {w:World}{g cap:Nat}{bs:List UInt8}(h:RowB w g cap bs)(i:Nat):w.frozen? ⟨g,i,none⟩=false:=by
 obtain⟨cur,h1,h2,h3,h4⟩:=h
 simp only[World.frozen?,h1]
 simp
theorem RowB.set {w:World}{g cap:Nat}{bs:List UInt8}(h:RowB w g cap bs)(i:Nat)(v:UInt8):RowB (w.setCell ⟨g,i,none⟩ (.int .u8 (v.toNat:Int))) g cap (bs.set i v):=by
 obtain⟨cur,h1,h2,h3,h4⟩:=h
 refine⟨cur.setIfInBounds i (.int .u8 (v.toNat:Int)),?_,by simp[h2],by simpa using h3,?_⟩
 · simp only[World.setCell,Array.getElem?_modify,h1]
   simp
 · rw[List.length_set,Lib.byteCells,List.map_set,Array.toList_setIfInBounds,List.take_set,h4]
   rfl
theorem RowB.of_own {w:World}{B:Nat}{v:Value}{bs:List UInt8}(h:w.ownsRow B 5 1 v bs.length (Lib.byteCells bs))(hp:0<bs.length):∃ g cap,v=.slice (some ⟨g,0,none⟩) bs.length cap∧B≤g∧cap≤maxLen∧RowB w g cap bs:=by
 obtain⟨h1,h2⟩:=h
 rcases h2 with⟨h2,h3⟩|⟨g,cap,cur,hv,hg,hh,hn,hc,hs,ht⟩
 · omega
 · rw[Nat.mul_one]at hs ht
   exact⟨g,cap,hv,hg,hc,cur,hh,hs,hn,ht⟩
end Go.Proofs.YtmigpoiajkihhaaGreatDoor
