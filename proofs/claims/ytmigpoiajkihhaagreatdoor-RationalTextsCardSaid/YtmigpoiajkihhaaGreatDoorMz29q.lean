/- Texts of this proof, one behind the other. -/
import Derived.Test.YtmigpoiajkihhaaGreatDoorMz12q
import Derived.Test.YtmigpoiajkihhaaGreatDoorMz1q
import Derived.Test.YtmigpoiajkihhaaGreatDoorQj
import Derived.Orders
import Derived.StillTail
import Derived.WalkKit
/- rational.Make, powerOfTen, nearest, placePoint, Decimal: walks. -/
open Go.Lib (hid)
namespace Go.Proofs.YtmigpoiajkihhaaGreatDoor
set_option maxRecDepth 100000
set_option maxHeartbeats 20000000
open Go.RowKit Go.Gb
theorem extract_eq' (s:ByteArray) (a b:Nat):(s.extract a b).data.toList=(s.data.toList.drop a).take (b - a):=by
 simp [ByteArray.data_extract,List.extract_eq_take_drop]
theorem make_raw (a b n d r:ByteArray) (hb0:(b.toList == [48])=false) (w:World) (hl:La w)
 (h1:CL 33 #[.string a] (.bool true))
 (h2:CL 33 #[.string b] (.bool true))
 (h3:CL 34 #[.string a,.string b] (.agg #[.string n,.string d]))
 (h4:CQ 35 #[.agg #[.string n,.string d]] (.string r)) :
 CR 9 #[.string a,.string b] w (.tuple #[.string r,.int .i64 0]):=by
 have C1:=hid h1
 have C2:=hid h2
 have C3:=hid h3
 have C4:=hid h4
 have HL:=hid hl
 have HB0:=hid (Below.refl w.heap.size w)
 clear h1 h2 h3 h4 hl
 go_enter Tryz.func9,Tryz.ntmps9
 go_wp2_with fail
 refine (C1.out _ (HL.out.on HB0.out)).mono ?_
 rintro e w1 ⟨rfl,hb⟩
 have HB1:=hid (HB0.out.trans (hb.mono HB0.out.size))
 clear hb
 go_wp2_with fail
 refine (C2.out _ (HL.out.on HB1.out)).mono ?_
 rintro e w2 ⟨rfl,hb⟩
 have HB2:=hid (HB1.out.trans (hb.mono HB1.out.size))
 clear hb
 go_wp2_with fail
 refine (C3.out _ (HL.out.on HB2.out)).mono ?_
 rintro e w3 ⟨rfl,hb⟩
 have HB3:=hid (HB2.out.trans (hb.mono HB2.out.size))
 clear hb
 go_wp2_with fail
 refine (C4.out _).mono ?_
 rintro e w4 ⟨rfl,hb⟩
 have HB4:=hid (HB3.out.trans (hb.mono HB3.out.size))
 clear hb
 go_wp2
 go_ret2
 exact ⟨rfl,HB4.out⟩
theorem divInt_le (a b:Int) (hb:b≠0):(Rat.divInt a b).num.natAbs≤a.natAbs∧(Rat.divInt a b).den≤b.natAbs:=by
 rcases Int.lt_or_gt_of_ne hb with h|h
 · obtain ⟨n,hn⟩:∃ n:Nat,b = -(n:Int):=⟨b.natAbs,by omega⟩
   subst hn
   have h2:=mk_le (-a) n (by omega)
   rw [Rat.divInt_neg',Rat.divInt_ofNat]
   rw [Int.natAbs_neg] at h2
   rw [Int.natAbs_neg,Int.natAbs_natCast]
   exact h2
 · obtain ⟨n,hn⟩:∃ n:Nat,b=(n:Int):=⟨b.natAbs,by omega⟩
   subst hn
   rw [Rat.divInt_ofNat,Int.natAbs_natCast]
   exact mk_le a n (by omega)
theorem smq_divInt {k:Nat} {a b:Int} (hb:b≠0) (ha:Sm k a.natAbs) (h:Sm k b.natAbs):SmQ k (Rat.divInt a b):=by
 obtain ⟨e1,e2⟩:=divInt_le a b hb
 exact ⟨ha.le e1,h.le e2⟩
theorem qMake (a b:Int) (hb:b≠0) (ha:FitL a) (fb:FitL b) (w:World) (hl:La w) :
 CR 9 #[.string (Sz a),.string (Sz b)] w (.tuple #[.string (Sq (Rat.divInt a b)),.int .i64 0]):=by
 have hs:SmQ 1900 (Rat.divInt a b):=smq_divInt hb ha fb
 have h3:=fun W hW=>freduce a b hb ha fb W hW
 unfold Fv at h3
 exact make_raw _ _ _ _ _ (sz_neq0 hb) w hl (fun W hW=>zValid_yes a ha.z W hW.zz) (fun W hW=>zValid_yes b fb.z W hW.zz) h3 (fun W=>fwrite _ hs.1 (FitL.nat hs.2) W)
theorem dec_pow10:∀ n:Nat,Lib.decDigits (10 ^ n)=49 :: Lib.repeatL [48] n
 | 0=>by decide +kernel
 | n+1=>by
   have h:=dec_pow10 n
   have hp:1≤10 ^ n:=Nat.one_le_pow _ _ (by decide)
   rw [Lib.decDigits,dif_neg (by rw [Nat.pow_succ];omega),show 10 ^ (n+1) / 10=10 ^ n by rw [Nat.pow_succ];omega,show 10 ^ (n+1) % 10=0 by rw [Nat.pow_succ];omega,h,Lib.repeatL_add [48] n 1,Lib.repeatL_one]
   rfl
theorem sz_pow10 (n:Nat):Sz ((10 ^ n:Nat):Int)=⟨#[49]⟩ ++ ⟨(Lib.repeatL [48] n).toArray⟩:=by
 rw [sz_nat]
 unfold Sn
 rw [dec_pow10]
 apply ByteArray.ext
 apply Array.ext'
 simp
theorem rpow10 (n:Nat) (hn:n≤1000) (w:World) :
 CR 61 #[.int .i64 (n:Int)] w (.string (Sz ((10 ^ n:Nat):Int))):=by
 have HR:=hid (Tryz.strings_Repeat ⟨#[48]⟩ n w (by omega) (by show 1 * n≤_;omega))
 rw [show (⟨#[48]⟩:ByteArray).data.toList=[48] from rfl] at HR
 have hsz:(⟨(Lib.repeatL [48] n).toArray⟩:ByteArray).size=n:=by rw [size_mk,Lib.repeatL_length];simp
 have e1:=fun W:World=>run_string_add_sum (P:=Tryz.prog) W ⟨#[49]⟩ ⟨(Lib.repeatL [48] n).toArray⟩ (by rw [hsz];show 1+n≤_;omega)
 rw [← sz_pow10] at e1
 generalize (⟨(Lib.repeatL [48] n).toArray⟩:ByteArray)=r at *
 generalize Sz ((10 ^ n:Nat):Int)=s at *
 clear hsz hn
 go_enter Tryz.func61,Tryz.ntmps61
 go_wp2_with fail
 refine HR.out.mono ?_
 rintro e w1 ⟨rfl,hb⟩
 go_wp2
 go_ret
 exact ⟨rfl,hb⟩
theorem sm_pow10 (n k:Nat) (h:n<k):Sm k ((10 ^ n:Nat):Int).natAbs:=by
 rw [Int.natAbs_natCast]
 exact Nat.pow_lt_pow_right (by decide) h
def nearZ (x d:Int):Int:=if x<0 then -(((x.natAbs:Int) * 2+d) / (d * 2)) else ((x.natAbs:Int) * 2+d) / (d * 2)
theorem near_neg_raw (a b s t u v q r n:ByteArray) (w:World) (hl:La w)
 (h1:CL 108 #[.string a] (.tuple #[.string s,.int .i64 0]))
 (h2:CL 60 #[.string s,.string ⟨#[50]⟩] (.string t))
 (h3:CL 109 #[.string t,.string b] (.string u))
 (h4:CL 60 #[.string b,.string ⟨#[50]⟩] (.string v))
 (h5:CL 55 #[.string u,.string v] (.tuple #[.string q,.string r,.int .i64 0]))
 (h6:CL 71 #[.string a] (.int .i64 (-1)))
 (h7:CL 77 #[.string q] (.string n)) :
 CR 59 #[.string a,.string b] w (.string n):=by
 have C1:=hid h1
 have C2:=hid h2
 have C3:=hid h3
 have C4:=hid h4
 have C5:=hid h5
 have C6:=hid h6
 have C7:=hid h7
 have HL:=hid hl
 have HB0:=hid (Below.refl w.heap.size w)
 clear h1 h2 h3 h4 h5 h6 h7 hl
 go_enter Tryz.func59,Tryz.ntmps59
 go_wp2_with fail
 refine (C1.out _ (HL.out.on HB0.out)).mono ?_
 rintro e w1 ⟨rfl,hb⟩
 have HB1:=hid (HB0.out.trans (hb.mono HB0.out.size))
 clear hb
 go_wp2_with fail
 refine (C2.out _ (HL.out.on HB1.out)).mono ?_
 rintro e w2 ⟨rfl,hb⟩
 have HB2:=hid (HB1.out.trans (hb.mono HB1.out.size))
 clear hb
 go_wp2_with fail
 refine (C3.out _ (HL.out.on HB2.out)).mono ?_
 rintro e w3 ⟨rfl,hb⟩
 have HB3:=hid (HB2.out.trans (hb.mono HB2.out.size))
 clear hb
 go_wp2_with fail
 refine (C4.out _ (HL.out.on HB3.out)).mono ?_
 rintro e w4 ⟨rfl,hb⟩
 have HB4:=hid (HB3.out.trans (hb.mono HB3.out.size))
 clear hb
 go_wp2_with fail
 refine (C5.out _ (HL.out.on HB4.out)).mono ?_
 rintro e w5 ⟨rfl,hb⟩
 have HB5:=hid (HB4.out.trans (hb.mono HB4.out.size))
 clear hb
 go_wp2_with fail
 refine (C6.out _ (HL.out.on HB5.out)).mono ?_
 rintro e w6 ⟨rfl,hb⟩
 have HB6:=hid (HB5.out.trans (hb.mono HB5.out.size))
 clear hb
 go_wp2_with fail
 refine (C7.out _ (HL.out.on HB6.out)).mono ?_
 rintro e w7 ⟨rfl,hb⟩
 have HB7:=hid (HB6.out.trans (hb.mono HB6.out.size))
 clear hb
 go_wp2
 go_ret
 exact ⟨rfl,HB7.out⟩
theorem near_pos_raw (a b s t u v q r:ByteArray) (g:Int) (hg:0≤g) (w:World) (hl:La w)
 (h1:CL 108 #[.string a] (.tuple #[.string s,.int .i64 0]))
 (h2:CL 60 #[.string s,.string ⟨#[50]⟩] (.string t))
 (h3:CL 109 #[.string t,.string b] (.string u))
 (h4:CL 60 #[.string b,.string ⟨#[50]⟩] (.string v))
 (h5:CL 55 #[.string u,.string v] (.tuple #[.string q,.string r,.int .i64 0]))
 (h6:CL 71 #[.string a] (.int .i64 g)) :
 CR 59 #[.string a,.string b] w (.string q):=by
 have C1:=hid h1
 have C2:=hid h2
 have C3:=hid h3
 have C4:=hid h4
 have C5:=hid h5
 have C6:=hid h6
 have HL:=hid hl
 have HB0:=hid (Below.refl w.heap.size w)
 have hg1:decide (g<0)=false:=by rw [decide_eq_false_iff_not];omega
 clear hg
 clear h1 h2 h3 h4 h5 h6 hl
 go_enter Tryz.func59,Tryz.ntmps59
 go_wp2_with fail
 refine (C1.out _ (HL.out.on HB0.out)).mono ?_
 rintro e w1 ⟨rfl,hb⟩
 have HB1:=hid (HB0.out.trans (hb.mono HB0.out.size))
 clear hb
 go_wp2_with fail
 refine (C2.out _ (HL.out.on HB1.out)).mono ?_
 rintro e w2 ⟨rfl,hb⟩
 have HB2:=hid (HB1.out.trans (hb.mono HB1.out.size))
 clear hb
 go_wp2_with fail
 refine (C3.out _ (HL.out.on HB2.out)).mono ?_
 rintro e w3 ⟨rfl,hb⟩
 have HB3:=hid (HB2.out.trans (hb.mono HB2.out.size))
 clear hb
 go_wp2_with fail
 refine (C4.out _ (HL.out.on HB3.out)).mono ?_
 rintro e w4 ⟨rfl,hb⟩
 have HB4:=hid (HB3.out.trans (hb.mono HB3.out.size))
 clear hb
 go_wp2_with fail
 refine (C5.out _ (HL.out.on HB4.out)).mono ?_
 rintro e w5 ⟨rfl,hb⟩
 have HB5:=hid (HB4.out.trans (hb.mono HB4.out.size))
 clear hb
 go_wp2_with fail
 refine (C6.out _ (HL.out.on HB5.out)).mono ?_
 rintro e w6 ⟨rfl,hb⟩
 have HB6:=hid (HB5.out.trans (hb.mono HB5.out.size))
 clear hb
 go_wp2
 go_ret
 exact ⟨rfl,HB6.out⟩
theorem rnearest (x d:Int) (hd:0<d) (hx:Sm 1800 x.natAbs) (fd:Sm 1800 d.natAbs) (w:World) (hl:La w) :
 CR 59 #[.string (Sz x),.string (Sz d)] w (.string (Sz (nearZ x d))):=by
 have f2:Sm 1 (2:Int).natAbs:=show Sm 1 2 by simp [Sm]
 have s0:Sm 1800 (x.natAbs:Int).natAbs:=by rw [Int.natAbs_natCast];exact hx
 have s1:Sm 1801 ((x.natAbs:Int) * 2).natAbs:=by rw [Int.natAbs_mul];exact (Sm.mul s0 f2).mono (by decide)
 have s2:Sm 1802 ((x.natAbs:Int) * 2+d).natAbs:=Sm.le ((Sm.add s1 (fd.mono (by decide))).mono (by decide)) (Int.natAbs_add_le _ _)
 have s3:Sm 1801 (d * 2).natAbs:=by rw [Int.natAbs_mul];exact (Sm.mul fd f2).mono (by decide)
 have f0:FitL x:=FitL.of hx (by decide)
 have fd1:FitL d:=FitL.of fd (by decide)
 have h1:=fun W (hW:La W)=>zAbs x f0.z W hW
 rw [← sz_nat] at h1
 have h2:=fun W hW=>rtimes (x.natAbs:Int) 2 _ rfl (FitL.of s0 (by decide)) fl2 (FitL.of s1 (by decide)) W hW
 have h3:=fun W hW=>rplus ((x.natAbs:Int) * 2) d _ rfl (FitL.of s1 (by decide)) fd1 (FitL.of s2 (by decide)) W hW
 have h4:=fun W hW=>rtimes d 2 _ rfl fd1 fl2 (FitL.of s3 (by decide)) W hW
 rw [sz_two] at h2 h4
 have f3:FitL ((x.natAbs:Int) * 2+d):=FitL.of s2 (by decide)
 have h5:=fun W (hW:La W)=>zDivMod ((x.natAbs:Int) * 2+d) (d * 2) _ _ (by omega) rfl rfl f3.z (FitL.of s3 (by decide)).z f3.succ W hW
 unfold nearZ
 by_cases hn:x<0
 · rw [if_pos hn]
   have f4:FitL (((x.natAbs:Int) * 2+d) / (d * 2)):=FitL.le f3 (Int.natAbs_ediv_le_natAbs _ _)
   exact near_neg_raw _ _ _ _ _ _ _ _ _ w hl h1 h2 h3 h4 h5 (fun W hW=>rsign _ _ (Int.sign_eq_neg_one_of_neg hn) f0 W hW) (fun W hW=>rneg _ _ rfl f4 W hW)
 · rw [if_neg hn]
   refine near_pos_raw _ _ _ _ _ _ _ _ x.sign ?_ w hl h1 h2 h3 h4 h5 (fun W hW=>rsign _ _ rfl f0 W hW)
   rcases Int.lt_trichotomy x 0 with h|h|h
   · omega
   · subst h;simp
   · rw [Int.sign_eq_one_of_pos h];decide
def padL (l:List UInt8) (n:Nat):List UInt8:=Lib.repeatL [48] (n+1 - l.length) ++ l
def pointL (l:List UInt8) (n:Nat):List UInt8:=(padL l n).take ((padL l n).length - n) ++ 46 :: (padL l n).drop ((padL l n).length - n)
theorem pad_len (l:List UInt8) (n:Nat):(padL l n).length=max (n+1) l.length:=by
 unfold padL
 rw [List.length_append,Lib.repeatL_length]
 simp
 omega
def pointB (l:List UInt8) (n:Nat):ByteArray:=⟨(pointL l n).toArray⟩
theorem place_zero (a:ByteArray) (w:World) :
 CR 58 #[.string a,.int .i64 0] w (.string a):=by
 go_enter Tryz.func58,Tryz.ntmps58
 go_wp2
 go_ret
 exact ⟨rfl,Below.refl _ _⟩
theorem place_neg (a dg:ByteArray) (n:Nat) (hn:1≤n) (hn2:n≤64) (hd:dg.size≤3000) (w:World)
 (h1:∀ W,Calls Tryz.prog 66 #[.string a,.string ⟨#[45]⟩] W fun e w'=>e=.returned (.tuple #[.string dg,.bool true])∧W=w') :
 CR 58 #[.string a,.int .i64 (n:Int)] w (.string (⟨#[45]⟩ ++ pointB dg.data.toList n)):=by
 obtain ⟨c,hc⟩:∃ c:Nat,c=n+1 - dg.size:=⟨_,rfl⟩
 have HR:=hid (fun W=>Tryz.strings_Repeat ⟨#[48]⟩ c W (by omega) (by show 1 * c≤_;omega))
 rw [show (⟨#[48]⟩:ByteArray).data.toList=[48] from rfl] at HR
 have hr:(⟨(Lib.repeatL [48] c).toArray⟩:ByteArray).size=c:=by rw [size_mk,Lib.repeatL_length];simp
 obtain ⟨p,hp⟩:∃ p:ByteArray,p=⟨(Lib.repeatL [48] c).toArray⟩ ++ dg:=⟨_,rfl⟩
 have hpl:p.data.toList=padL dg.data.toList n:=by
  rw [hp];unfold padL;rw [size_list,← hc];simp
 have hps:p.size=max (n+1) dg.size:=by rw [← size_list,hpl,pad_len,size_list]
 have e1:=fun W:World=>run_string_add_sum (P:=Tryz.prog) W ⟨(Lib.repeatL [48] c).toArray⟩ dg (by rw [hr];omega)
 rw [← hp] at e1
 obtain ⟨m,hm⟩:∃ m:Nat,m+n=p.size:=⟨p.size - n,by omega⟩
 have x1:(p.extract 0 m).size=m:=by rw [ByteArray.size_extract];omega
 have x2:(p.extract m p.size).size=n:=by rw [ByteArray.size_extract];omega
 have z1:(⟨#[46]⟩:ByteArray).size=1:=rfl
 have x3:(p.extract 0 m ++ ⟨#[46]⟩:ByteArray).size=m+1:=by rw [ByteArray.size_append,x1,z1]
 have e2:=fun W:World=>run_string_add_sum (P:=Tryz.prog) W (p.extract 0 m) ⟨#[46]⟩ (by rw [x1,z1];omega)
 have e3:=fun W:World=>run_string_add_sum (P:=Tryz.prog) W (p.extract 0 m ++ ⟨#[46]⟩) (p.extract m p.size) (by rw [x3,x2];omega)
 have ef:p.extract 0 m ++ ⟨#[46]⟩ ++ p.extract m p.size=pointB dg.data.toList n:=by
  unfold pointB pointL
  rw [← hpl,size_list,show p.size - n=m by omega]
  apply ByteArray.ext
  apply Array.ext'
  simp only [ByteArray.data_append,Array.toList_append]
  rw [extract_eq',extract_eq']
  simp
  rw [List.take_of_length_le (by rw [List.length_drop,size_list];omega)]
 rw [ef] at e3
 have z2:(⟨#[45]⟩:ByteArray).size=1:=rfl
 have x4:(pointB dg.data.toList n).size=m+1+n:=by rw [← ef,ByteArray.size_append,x3,x2]
 have e4:=fun W:World=>run_string_add_sum (P:=Tryz.prog) W ⟨#[45]⟩ (pointB dg.data.toList n) (by rw [z2,x4];omega)
 generalize pointB dg.data.toList n=out at *
 have k0:((n:Int) == 0)=false:=by rw [beq_eq_false_iff_ne];omega
 have k1:IntKind.i64.wrap ((n:Int)+1)=(n:Int)+1:=IntWalk.i64_in _ (by omega)
 have k2:IntKind.i64.wrap ((n:Int)+1 - (dg.size:Int))=(n:Int)+1 - (dg.size:Int):=IntWalk.i64_in _ (by omega)
 have k3:max (0:Int) ((n:Int)+1 - (dg.size:Int))=(c:Int):=by omega
 have k4:(p.size:Int) - (n:Int)=(m:Int):=by omega
 have k5:IntKind.i64.wrap (m:Int)=(m:Int):=IntWalk.i64_in _ (by omega)
 have k6:(m:Int)≤(p.size:Int):=by omega
 have C1:=hid h1
 have kn:¬ (n:Int)=0:=by omega
 clear h1 hc hr hp hpl hps hm x1 x2 z1 x3 ef hn hn2 hd z2 x4
 go_enter Tryz.func58,Tryz.ntmps58
 go_wp2_with fail
 refine (C1.out _).mono ?_
 rintro e w' ⟨rfl,rfl⟩
 go_wp2_with fail
 refine (HR.out _).mono ?_
 rintro e w1 ⟨rfl,hb⟩
 have HB:=hid hb
 clear hb
 go_wp2
 go_region
 all_goals
  go_wp2
  go_ret
  exact ⟨rfl,HB.out.drew⟩
theorem place_pos (a dg:ByteArray) (n:Nat) (hn:1≤n) (hn2:n≤64) (hd:dg.size≤3000) (w:World)
 (h1:∀ W,Calls Tryz.prog 66 #[.string a,.string ⟨#[45]⟩] W fun e w'=>e=.returned (.tuple #[.string dg,.bool false])∧W=w') :
 CR 58 #[.string a,.int .i64 (n:Int)] w (.string (pointB dg.data.toList n)):=by
 obtain ⟨c,hc⟩:∃ c:Nat,c=n+1 - dg.size:=⟨_,rfl⟩
 have HR:=hid (fun W=>Tryz.strings_Repeat ⟨#[48]⟩ c W (by omega) (by show 1 * c≤_;omega))
 rw [show (⟨#[48]⟩:ByteArray).data.toList=[48] from rfl] at HR
 have hr:(⟨(Lib.repeatL [48] c).toArray⟩:ByteArray).size=c:=by rw [size_mk,Lib.repeatL_length];simp
 obtain ⟨p,hp⟩:∃ p:ByteArray,p=⟨(Lib.repeatL [48] c).toArray⟩ ++ dg:=⟨_,rfl⟩
 have hpl:p.data.toList=padL dg.data.toList n:=by
  rw [hp];unfold padL;rw [size_list,← hc];simp
 have hps:p.size=max (n+1) dg.size:=by rw [← size_list,hpl,pad_len,size_list]
 have e1:=fun W:World=>run_string_add_sum (P:=Tryz.prog) W ⟨(Lib.repeatL [48] c).toArray⟩ dg (by rw [hr];omega)
 rw [← hp] at e1
 obtain ⟨m,hm⟩:∃ m:Nat,m+n=p.size:=⟨p.size - n,by omega⟩
 have x1:(p.extract 0 m).size=m:=by rw [ByteArray.size_extract];omega
 have x2:(p.extract m p.size).size=n:=by rw [ByteArray.size_extract];omega
 have z1:(⟨#[46]⟩:ByteArray).size=1:=rfl
 have x3:(p.extract 0 m ++ ⟨#[46]⟩:ByteArray).size=m+1:=by rw [ByteArray.size_append,x1,z1]
 have e2:=fun W:World=>run_string_add_sum (P:=Tryz.prog) W (p.extract 0 m) ⟨#[46]⟩ (by rw [x1,z1];omega)
 have e3:=fun W:World=>run_string_add_sum (P:=Tryz.prog) W (p.extract 0 m ++ ⟨#[46]⟩) (p.extract m p.size) (by rw [x3,x2];omega)
 have ef:p.extract 0 m ++ ⟨#[46]⟩ ++ p.extract m p.size=pointB dg.data.toList n:=by
  unfold pointB pointL
  rw [← hpl,size_list,show p.size - n=m by omega]
  apply ByteArray.ext
  apply Array.ext'
  simp only [ByteArray.data_append,Array.toList_append]
  rw [extract_eq',extract_eq']
  simp
  rw [List.take_of_length_le (by rw [List.length_drop,size_list];omega)]
 rw [ef] at e3
 generalize pointB dg.data.toList n=out at *
 have k0:((n:Int) == 0)=false:=by rw [beq_eq_false_iff_ne];omega
 have k1:IntKind.i64.wrap ((n:Int)+1)=(n:Int)+1:=IntWalk.i64_in _ (by omega)
 have k2:IntKind.i64.wrap ((n:Int)+1 - (dg.size:Int))=(n:Int)+1 - (dg.size:Int):=IntWalk.i64_in _ (by omega)
 have k3:max (0:Int) ((n:Int)+1 - (dg.size:Int))=(c:Int):=by omega
 have k4:(p.size:Int) - (n:Int)=(m:Int):=by omega
 have k5:IntKind.i64.wrap (m:Int)=(m:Int):=IntWalk.i64_in _ (by omega)
 have k6:(m:Int)≤(p.size:Int):=by omega
 have C1:=hid h1
 have kn:¬ (n:Int)=0:=by omega
 clear h1 hc hr hp hpl hps hm x1 x2 z1 x3 ef hn hn2 hd
 go_enter Tryz.func58,Tryz.ntmps58
 go_wp2_with fail
 refine (C1.out _).mono ?_
 rintro e w' ⟨rfl,rfl⟩
 go_wp2_with fail
 refine (HR.out _).mono ?_
 rintro e w1 ⟨rfl,hb⟩
 have HB:=hid hb
 clear hb
 go_wp2
 go_region
 all_goals
  go_wp2
  go_ret
  exact ⟨rfl,HB.out.drew⟩
end Go.Proofs.YtmigpoiajkihhaaGreatDoor
/- A region that draws its order, by an invariant of its states. No program is mentioned. -/
namespace Go.Gb
open Go
section
variable {P:Program} {ops:Array Oper} {Q:Exit→Act→World→Prop} {md:Region.Mode}
def Closed (md:Region.Mode) (ops:Array Oper) (listed:Array Bool):Prop:=∀ j i,listed.getD j false=true→Region.waitsFor md ops j i=true→listed.getD i false=true
theorem waits_of {j i:Nat} {o:Oper} (ho:ops[j]? = some o) (h:Region.waitsFor md ops j i=true):∃ e ∈ o.after,Region.binds md e=true∧e.on=i:=by
 obtain ⟨o',ho',e,he,hb⟩:=Region.waitsFor_spec h
 obtain rfl:o'=o:=Option.some.inj (ho'.symm.trans ho)
 exact ⟨e,he,hb⟩
theorem ready_waits {listed:Array Bool} {j i:Nat} (hj:j ∈ Region.ready md ops listed) (h:Region.waitsFor md ops j i=true):listed.getD i false=true:=by
 obtain ⟨_,o,ho,hall⟩:=mem_ready.1 hj
 obtain ⟨e,he,hb,rfl⟩:=waits_of ho h
 exact hall e he hb
theorem ready_un {listed:Array Bool} {j:Nat} (hj:j ∈ Region.ready md ops listed):listed.getD j true=false:=(mem_ready.1 hj).1
theorem ready_lt {listed:Array Bool} {j:Nat} (hj:j ∈ Region.ready md ops listed):j<ops.size:=by
 obtain ⟨_,o,ho,_⟩:=mem_ready.1 hj
 exact (Array.getElem?_eq_some_iff.1 ho).1
theorem getD_set_cases {listed:Array Bool} {i j:Nat} (h:(listed.setIfInBounds i true).getD j false=true):j=i∨listed.getD j false=true:=by
 by_cases hij:j=i
 · exact Or.inl hij
 · right
   simp only [Array.getD_eq_getD_getElem?] at h ⊢
   rwa [Array.getElem?_setIfInBounds_ne (Ne.symm hij)] at h
theorem getD_set_keep {listed:Array Bool} {i j:Nat} (h:listed.getD j false=true):(listed.setIfInBounds i true).getD j false=true:=by
 simp only [Array.getD_eq_getD_getElem?] at h ⊢
 by_cases hij:i=j
 · subst hij
   rw [Array.getElem?_setIfInBounds_self]
   split
   · rfl
   · rename_i hlt
     rw [Array.getElem?_eq_none (by omega)] at h
     exact h
 · rw [Array.getElem?_setIfInBounds_ne hij];exact h
theorem Closed.set {listed:Array Bool} {i:Nat} (h:Closed md ops listed) (hi:i ∈ Region.ready md ops listed):Closed md ops (listed.setIfInBounds i true):=by
 intro j k hj hw
 rcases getD_set_cases hj with rfl|hj
 · exact getD_set_keep (ready_waits hi hw)
 · exact getD_set_keep (h j k hj hw)
theorem closed_none (n:Nat):Closed md ops (Array.replicate n false):=by
 intro j i hj _
 exfalso
 simp only [Array.getD_eq_getD_getElem?,Array.getElem?_replicate] at hj
 split at hj <;> simp at hj
theorem wpAny_inv (I:Array Bool→Act→World→Prop)
 (hstep:∀ listed a w i,I listed a w→i ∈ Region.ready md ops listed→wpOp P ops Q i (fun a' w'=>I (listed.setIfInBounds i true) a' w') a w)
 (hend:∀ listed a w,I listed a w→Region.ready md ops listed=[]→Q .normal a w) :
 ∀ (n:Nat) (U:List Nat) (listed:Array Bool) (a:Act) (w:World),U.length=n→U.Nodup→(∀ i,i ∈ U↔(i<ops.size∧listed.getD i true=false))→listed.size=ops.size→I listed a w→wpAny P md ops Q n listed a w
 | 0,U,listed,a,w,hn,_,hU,_,hI=>by
   have h0:Region.ready md ops listed=[]:=by
    apply List.eq_nil_iff_forall_not_mem.2
    intro i hi
    have hm:=(hU i).2 ⟨ready_lt hi,ready_un hi⟩
    rw [List.length_eq_zero_iff.1 hn] at hm
    cases hm
   exact ⟨h0,hend listed a w hI h0⟩
 | n+1,U,listed,a,w,hn,hd,hU,hs,hI=>by
   refine ⟨fun h0=>hend listed a w hI h0,fun i hi=>?_⟩
   refine wpOp_mono (fun a' w' hI'=>?_) (hstep listed a w i hI hi)
   have hm:=(hU i).2 ⟨ready_lt hi,ready_un hi⟩
   refine wpAny_inv I hstep hend n (U.erase i) _ a' w' (by rw [List.length_erase_of_mem hm,hn];rfl) (hd.erase i) (fun j=>?_) (by simpa using hs) hI'
   rw [hd.mem_erase_iff,hU j]
   simp only [Array.getD_eq_getD_getElem?]
   by_cases hij:j=i
   · subst hij
     rw [Array.getElem?_setIfInBounds_self_of_lt (by rw [hs];exact ready_lt hi)]
     simp
   · rw [Array.getElem?_setIfInBounds_ne (Ne.symm hij)]
     simp [hij]
theorem wp_region_inv {id:Nat} {a:Act} {w:World} (hm:P.follows .mixedOrders=true) (I:Array Bool→Act→World→Prop)
 (hstart:I (Array.replicate ops.size false) a w.drew)
 (hstep:∀ listed a w i,I listed a w→i ∈ Region.ready .any ops listed→wpOp P ops Q i (fun a' w'=>I (listed.setIfInBounds i true) a' w') a w)
 (hend:∀ listed a w,I listed a w→Region.ready .any ops listed=[]→Q .normal a w):(Code.region id ops true).wp P Q a w:=by
 refine wp_region_any hm ?_
 refine wpAny_inv I hstep hend ops.size (List.range ops.size) _ a _ (by simp) List.nodup_range (fun i=>?_) (by simp) hstart
 rw [List.mem_range]
 simp only [Array.getD_eq_getD_getElem?,Array.getElem?_replicate]
 constructor
 · intro h;exact ⟨h,by rw [if_pos h];rfl⟩
 · intro h;exact h.1
def backB (md:Region.Mode) (ops:Array Oper):Bool:=(List.range ops.size).all fun j=>match ops[j]? with
 | some o=>o.after.all fun e => !Region.binds md e || decide (e.on<j)
 | none=>true
theorem back_of (hb:backB md ops=true) {j i:Nat} (h:Region.waitsFor md ops j i=true):i<j:=by
 obtain ⟨o,ho,e,he,hbi,rfl⟩:=Region.waitsFor_spec h
 have hj:j<ops.size:=(Array.getElem?_eq_some_iff.1 ho).1
 have h1:=List.all_eq_true.1 hb j (List.mem_range.2 hj)
 rw [ho] at h1
 simp only at h1
 have h2:=Array.all_eq_true'.1 h1 e he
 rw [hbi] at h2
 simpa using h2
theorem all_listed {listed:Array Bool} (hs:listed.size=ops.size) (hb:backB md ops=true) (h:Region.ready md ops listed=[]):∀ j,j<ops.size→listed.getD j false=true:=by
 intro j
 induction j using Nat.strongRecOn with
 | _ j ih =>
   intro hj
   cases hl:listed.getD j true with
   | true =>
     simp only [Array.getD_eq_getD_getElem?] at hl ⊢
     have hlt:j<listed.size:=by omega
     rw [Array.getElem?_eq_getElem hlt] at hl ⊢
     exact hl
   | false =>
     exfalso
     obtain ⟨o,ho⟩:∃ o,ops[j]? = some o:=⟨ops[j],Array.getElem?_eq_getElem hj⟩
     have hr:j ∈ Region.ready md ops listed:=by
       refine mem_ready.2 ⟨hl,o,ho,fun e he hbi=>?_⟩
       have hw:Region.waitsFor md ops j e.on=true:=by
        unfold Region.waitsFor
        rw [ho]
        simp only
        refine Array.any_eq_true'.2 ⟨e,he,?_⟩
        simp [hbi]
       have h1:=back_of hb hw
       exact ih e.on h1 (by omega)
     rw [h] at hr
     cases hr
structure SInv (ops:Array Oper) (lo m:Nat) (val:Nat→Value) (a0:Act) (W:Array Bool→World→Prop) (listed:Array Bool) (a:Act) (w:World):Prop where
 closed:Closed .any ops listed
 size:listed.size=ops.size
 slots:∀ i,i<m→listed.getD i false=true→a.tmps[lo+i]? = some (val i)
 rest:∀ d,(d<lo∨lo+m≤d)→a.tmps[d]? = a0.tmps[d]?
 tsize:a.tmps.size=a0.tmps.size
 defers:a.defers=a0.defers
 world:W listed w
theorem SInv.start {lo m:Nat} {val:Nat→Value} {a:Act} {W:Array Bool→World→Prop} {w:World} (h:W (Array.replicate ops.size false) w):SInv ops lo m val a W (Array.replicate ops.size false) a w :=
 ⟨closed_none _,by simp,fun i _ hi=>by
  exfalso
  simp only [Array.getD_eq_getD_getElem?,Array.getElem?_replicate] at hi
  split at hi <;> simp at hi,fun _ _=>rfl,rfl,rfl,h⟩
theorem SInv.put {lo m i d:Nat} {v:Value} {val:Nat→Value} {a a0:Act} {W:Array Bool→World→Prop} {listed:Array Bool} {w w':World} (h:SInv ops lo m val a0 W listed a w) (hi:i ∈ Region.ready .any ops listed) (hm:i<m) (hd:d=lo+i) (hv:v=val i)
 (hlo:lo+m≤a0.tmps.size) (hW:W (listed.setIfInBounds i true) w'):SInv ops lo m val a0 W (listed.setIfInBounds i true) (a.put (some d) v) w':=by
 subst hd hv
 have hp:(a.put (some (lo+i)) (val i)).tmps=a.tmps.setIfInBounds (lo+i) (val i):=rfl
 have hts:=h.tsize
 refine ⟨h.closed.set hi,by simpa using h.size,fun j hj hl=>?_,fun e he=>?_,by rw [hp];simpa using hts,h.defers,hW⟩
 · rw [hp]
   by_cases hji:j=i
   · subst hji
     rw [Array.getElem?_setIfInBounds_self_of_lt (by omega)]
   · rw [Array.getElem?_setIfInBounds_ne (by omega)]
     rcases getD_set_cases hl with h2|h2
     · exact absurd h2 hji
     · exact h.slots j hj h2
 · rw [hp,Array.getElem?_setIfInBounds_ne (by omega)]
   exact h.rest e he
theorem SInv.skip {lo m i:Nat} {v:Value} {val:Nat→Value} {a a0:Act} {W:Array Bool→World→Prop} {listed:Array Bool} {w w':World} (h:SInv ops lo m val a0 W listed a w) (hi:i ∈ Region.ready .any ops listed) (hm:m≤i)
 (hW:W (listed.setIfInBounds i true) w'):SInv ops lo m val a0 W (listed.setIfInBounds i true) (a.put none v) w':=by
 refine ⟨h.closed.set hi,by simpa using h.size,fun j hj hl=>?_,h.rest,h.tsize,h.defers,hW⟩
 rcases getD_set_cases hl with h2|h2
 · omega
 · exact h.slots j hj h2
theorem SInv.at {lo m i j:Nat} {val:Nat→Value} {a a0:Act} {W:Array Bool→World→Prop} {listed:Array Bool} {w:World} (h:SInv ops lo m val a0 W listed a w) (hj:j ∈ Region.ready .any ops listed) (hw:Region.waitsFor .any ops j i=true) (hm:i<m) :
 a.tmps[lo+i]? = some (val i):=h.slots i hm (ready_waits hj hw)
theorem SInv.not {lo m i j:Nat} {val:Nat→Value} {a a0:Act} {W:Array Bool→World→Prop} {listed:Array Bool} {w:World} (h:SInv ops lo m val a0 W listed a w) (hw:Region.waitsFor .any ops j i=true) (hi:listed.getD i false=false):listed.getD j false=false:=by
 cases hj:listed.getD j false with
 | false=>rfl
 | true=>rw [h.closed j i hj hw] at hi;cases hi
theorem ready_un' {listed:Array Bool} {j:Nat} (hj:j ∈ Region.ready md ops listed):listed.getD j false=false:=by
 have h:=ready_un hj
 simp only [Array.getD_eq_getD_getElem?] at h ⊢
 cases hc:listed[j]? with
 | none=>rw [hc] at h;simp at h
 | some b=>rw [hc] at h;simpa using h
theorem SInv.done {lo m:Nat} {val:Nat→Value} {a a0:Act} {W:Array Bool→World→Prop} {listed:Array Bool} {w:World} (h:SInv ops lo m val a0 W listed a w) (hall:∀ j,j<ops.size→listed.getD j false=true) (hm:m≤ops.size) (a1:Act)
 (h1:∀ i,i<m→a1.tmps[lo+i]? = some (val i)) (h2:∀ d,(d<lo∨lo+m≤d)→a1.tmps[d]? = a0.tmps[d]?) (h3:a1.defers=a0.defers):a=a1:=by
 have ht:a.tmps=a1.tmps:=by
  apply Array.ext_getElem?
  intro d
  by_cases hd:d<lo∨lo+m≤d
  · rw [h.rest d hd,h2 d hd]
  · obtain ⟨i,rfl⟩:∃ i,d=lo+i:=⟨d - lo,by omega⟩
    rw [h.slots i (by omega) (hall i (by omega)),h1 i (by omega)]
 have hd:=h.defers
 cases a;cases a1
 simp only at ht hd h3
 rw [ht,hd,h3]
def puts (lo:Nat):List Value→Array Value→Array Value
 | [],t=>t
 | v :: vs,t=>puts (lo+1) vs (t.setIfInBounds lo v)
theorem puts_out:∀ (vs:List Value) (lo:Nat) (t:Array Value) (d:Nat),(d<lo∨lo+vs.length≤d)→(puts lo vs t)[d]? = t[d]?
 | [],_,_,_,_=>rfl
 | v :: vs,lo,t,d,h=>by
   rw [puts,puts_out vs (lo+1) _ d (by simp at h;omega),Array.getElem?_setIfInBounds_ne (by simp at h;omega)]
theorem puts_in:∀ (vs:List Value) (lo:Nat) (t:Array Value) (i:Nat) (v:Value),lo+vs.length≤t.size→vs[i]? = some v→(puts lo vs t)[lo+i]? = some v
 | [],_,_,_,_,_,h=>by simp at h
 | u :: vs,lo,t,0,v,hs,h=>by
   simp at h hs
   subst h
   rw [puts,puts_out vs (lo+1) _ (lo+0) (Or.inl (by omega)),Nat.add_zero,Array.getElem?_setIfInBounds_self_of_lt (by omega)]
 | u :: vs,lo,t,i+1,v,hs,h=>by
   simp at h hs
   rw [puts,show lo+(i+1)=lo+1+i by omega]
   exact puts_in vs (lo+1) _ i v (by simp;omega) h
theorem SInv.finish {lo m:Nat} {val:Nat→Value} {a a0:Act} {W:Array Bool→World→Prop} {listed:Array Bool} {w:World} (h:SInv ops lo m val a0 W listed a w) (hall:∀ j,j<ops.size→listed.getD j false=true) (hm:m≤ops.size) (vs:List Value) (hl:vs.length=m)
 (hv:∀ i,i<m→vs[i]? = some (val i)) (hlo:lo+m≤a0.tmps.size):a=⟨puts lo vs a0.tmps,a0.defers⟩ :=
 h.done hall hm ⟨puts lo vs a0.tmps,a0.defers⟩ (fun i hi=>puts_in vs lo _ i _ (by omega) (hv i hi)) (fun d hd=>puts_out vs lo _ d (by omega)) rfl
end
end Go.Gb
