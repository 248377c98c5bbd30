/- rational.Decimal out of range; rational.Parse of any text. -/
import Derived.Test.YtmigpoiajkihhaaGreatDoorMz12q
import Derived.Test.YtmigpoiajkihhaaGreatDoorMz1q
import Derived.Test.YtmigpoiajkihhaaGreatDoorMz50q
import Derived.Test.YtmigpoiajkihhaaGreatDoorMz32q
import Derived.Test.YtmigpoiajkihhaaGreatDoorMz39q
import Derived.Test.YtmigpoiajkihhaaGreatDoorNumT
import Derived.Deep.DeepCutAuto
import Derived.Deep.CutRange
open Go.Lib (hid)
namespace Go.Proofs.YtmigpoiajkihhaaGreatDoor
set_option maxRecDepth 100000
set_option maxHeartbeats 20000000
open Go.RowKit Go.Gb
theorem isD_tens (x:UInt8):isD x=true↔x ∈ tens:=by
 constructor
 · intro h
   have h2:=(isD_iff x).1 h
   have h3:=tens_of x.toNat h2.1 h2.2
   simpa using h3
 · intro h
   simp only [tens,List.mem_cons,List.not_mem_nil,or_false] at h
   rcases h with rfl|rfl|rfl|rfl|rfl|rfl|rfl|rfl|rfl|rfl <;> decide
theorem drop_keeps {p:UInt8→Bool} {x:UInt8} (hp:p x=false):∀ l:List UInt8,x ∈ l→x ∈ l.dropWhile p
 | c :: t,h=>by
   rw [List.dropWhile_cons]
   split
   · rename_i hc
     rcases List.mem_cons.1 h with rfl|h
     · rw [hp] at hc;cases hc
     · exact drop_keeps hp t h
   · exact h
theorem trimS_has {l:List UInt8} {x:UInt8} (hx:x ∈ l) (h:x ∉ tens):Lib.trimS l tens≠[]:=by
 have hp:(tens.contains x)=false:=by simpa using h
 have h1:x ∈ Lib.trimS l tens:=by
  unfold Lib.trimS Lib.trimLeftS Lib.trimRightS
  first
   | exact drop_keeps (p:=(tens.contains ·)) hp _ (List.mem_reverse.2 (drop_keeps (p:=(tens.contains ·)) hp _ (List.mem_reverse.2 hx)))
   | exact List.mem_reverse.2 (drop_keeps (p:=(tens.contains ·)) hp _ (List.mem_reverse.2 (drop_keeps (p:=(tens.contains ·)) hp _ hx)))
 intro e
 rw [e] at h1
 cases h1
theorem rdigits_bad (s:ByteArray) (hs:s.size≤100000) (x:UInt8) (hx:x ∈ s.data.toList) (hn:x ∉ tens) (w:World) :
 CR 68 #[.string s] w (.bool false):=by
 have h0:(s.toList == [])=false:=by
  rw [toList_data,beq_eq_false_iff_ne]
  intro e
  rw [e] at hx
  cases hx
 have ht:=trimS_has hx hn
 have HT:=hid (fun W=>Any.strings_Trim_laid Tryz.lays160 (by kernel_rfl) s ⟨#[48,49,50,51,52,53,54,55,56,57]⟩ W (by omega) (by decide) (ascii_of_all (by decide)))
 rw [show (⟨#[48,49,50,51,52,53,54,55,56,57]⟩:ByteArray).data.toList=tens from rfl] at HT
 obtain ⟨r,hr⟩:∃ r,r=(⟨(Lib.trimS s.data.toList tens).toArray⟩:ByteArray):=⟨_,rfl⟩
 have hr0:(r.toList == [])=false:=by
  rw [hr,toList_data,mk_list,beq_eq_false_iff_ne]
  exact ht
 rw [← hr] at HT
 clear hs hx hn ht hr
 go_enter Tryz.func68,Tryz.ntmps68
 go_wp2_with fail
 refine (HT.out _).mono ?_
 rintro e w1 ⟨rfl,hb⟩
 have HB:=hid hb
 clear hb
 go_wp2
 go_ret
 exact ⟨rfl,HB.out⟩
theorem rdigits_empty (w:World) :
 CR 68 #[.string ⟨#[]⟩] w (.bool false):=by
 go_enter Tryz.func68,Tryz.ntmps68
 go_wp2
 go_ret
 exact ⟨rfl,Below.refl _ _⟩
theorem rdigits_any (l:List UInt8) (hs:l.length≤100000) (w:World) :
 CR 68 #[.string ⟨l.toArray⟩] w (.bool (decide (l≠[]) && l.all isD)):=by
 by_cases h0:l=[]
 · subst h0
   exact rdigits_empty w
 · rw [decide_eq_true h0,Bool.true_and]
   cases ha:l.all isD with
   | true =>
     exact rdigits _ (nil_no (fun e=>h0 (List.length_eq_zero_iff.1 e))) (by rw [size_mk];exact hs) (by rw [mk_list];exact fun x hx=>(isD_tens x).1 (List.all_eq_true.1 ha x hx)) w
   | false =>
     have:∃ x ∈ l,isD x=false:=by
       have h:=List.all_eq_false.1 ha
       obtain ⟨x,hx,hn⟩:=h
       exact ⟨x,hx,by simpa using hn⟩
     obtain ⟨x,hx,hn⟩:=this
     exact rdigits_bad _ (by rw [size_mk];exact hs) x (by rw [mk_list];exact hx) (fun h=>by rw [(isD_tens x).2 h] at hn;cases hn) w
theorem decimal_neg (a x1 x2:ByteArray) (n:Int) (hn:n<0) (w:World) (hl:La w) (h1:CL 42 #[.string a] (.tuple #[.agg #[.string x1,.string x2],.bool true])) :
 CR 27 #[.string a,.int .i64 n] w (.tuple #[.string ⟨#[]⟩,.int .i64 2]):=by
 have HL:=hid hl
 have C1:=hid h1
 have t0:decide (n<0)=true:=decide_eq_true hn
 have t1:n<0:=hn
 clear hn
 clear hl h1
 go_enter Tryz.func27,Tryz.ntmps27
 have HB0:=hid (Below.refl w.heap.size w)
 go_wp2_with fail
 with_reducible refine (C1.out _ (HL.out.on HB0.out)).mono ?_
 rintro e W1 ⟨rfl,hb⟩
 have HB1:=hid (HB0.out.trans (hb.mono HB0.out.size))
 clear hb
 go_upto_region 2 with fail
 refine wp_boxes W1 [(#[.string x1,.string x2],44)] rfl ?_
 have L1:=HB1.out.size
 rintro W2 ⟨k1,hb⟩
 have hb:Below W1.heap.size W1 W2:=hb
 have HB2:=hid (HB1.out.trans (hb.mono HB1.out.size))
 have K1:=hid k1
 clear k1 hb
 go_wp2
 exact bodyPost_ret (v:=.tuple #[.string ⟨#[]⟩,.int .i64 2]) (by simp [results,Tryz.results27,go_sem]) rfl ⟨rfl,HB2.out⟩
theorem decimal_big (a x1 x2:ByteArray) (n:Int) (hn:64<n) (w:World) (hl:La w) (h1:CL 42 #[.string a] (.tuple #[.agg #[.string x1,.string x2],.bool true])) :
 CR 27 #[.string a,.int .i64 n] w (.tuple #[.string ⟨#[]⟩,.int .i64 2]):=by
 have HL:=hid hl
 have C1:=hid h1
 have t0:decide (n<0)=false:=decide_eq_false (by omega)
 have t1:¬ n<0:=by omega
 have t2:decide (64<n)=true:=decide_eq_true hn
 have t3:64<n:=hn
 clear hn
 clear hl h1
 go_enter Tryz.func27,Tryz.ntmps27
 have HB0:=hid (Below.refl w.heap.size w)
 go_wp2_with fail
 with_reducible refine (C1.out _ (HL.out.on HB0.out)).mono ?_
 rintro e W1 ⟨rfl,hb⟩
 have HB1:=hid (HB0.out.trans (hb.mono HB0.out.size))
 clear hb
 go_upto_region 2 with fail
 refine wp_boxes W1 [(#[.string x1,.string x2],44)] rfl ?_
 have L1:=HB1.out.size
 rintro W2 ⟨k1,hb⟩
 have hb:Below W1.heap.size W1 W2:=hb
 have HB2:=hid (HB1.out.trans (hb.mono HB1.out.size))
 have K1:=hid k1
 clear k1 hb
 go_wp2
 exact bodyPost_ret (v:=.tuple #[.string ⟨#[]⟩,.int .i64 2]) (by simp [results,Tryz.results27,go_sem]) rfl ⟨rfl,HB2.out⟩
theorem parse_err1 (s z wh pl:ByteArray) (sg:Bool) (w:World) (hl:La w) (h1:CL 13 #[.string s] (.bool false)) (h2:CQ 66 #[.string s,.string ⟨#[45]⟩] (.tuple #[.string z,.bool sg])) (h3:CQ 67 #[.string z,.string ⟨#[46]⟩] (.tuple #[.string wh,.string pl,.bool false])) :
 CR 29 #[.string s] w (.tuple #[.string ⟨#[]⟩,.int .i64 3]):=by
 have HL:=hid hl
 have C1:=hid h1
 have C2:=hid h2
 have C3:=hid h3
 clear hl h1 h2 h3
 go_enter Tryz.func29,Tryz.ntmps29
 have HB0:=hid (Below.refl w.heap.size w)
 go_wp2_with fail
 with_reducible refine (C1.out _ (HL.out.on HB0.out)).mono ?_
 rintro e W1 ⟨rfl,hb⟩
 have HB1:=hid (HB0.out.trans (hb.mono HB0.out.size))
 clear hb
 go_wp2_with fail
 with_reducible refine (C2.out _).mono ?_
 rintro e W2 ⟨rfl,hb⟩
 have HB2:=hid (HB1.out.trans (hb.mono HB1.out.size))
 clear hb
 go_wp2_with fail
 with_reducible refine (C3.out _).mono ?_
 rintro e W3 ⟨rfl,hb⟩
 have HB3:=hid (HB2.out.trans (hb.mono HB2.out.size))
 clear hb
 go_wp2
 exact bodyPost_ret (v:=.tuple #[.string ⟨#[]⟩,.int .i64 3]) (by simp [results,Tryz.results29,go_sem]) rfl ⟨rfl,HB3.out⟩
theorem parse_err2 (s z wh pl:ByteArray) (sg:Bool) (w:World) (hl:La w) (h1:CL 13 #[.string s] (.bool false)) (h2:CQ 66 #[.string s,.string ⟨#[45]⟩] (.tuple #[.string z,.bool sg])) (h3:CQ 67 #[.string z,.string ⟨#[46]⟩] (.tuple #[.string wh,.string pl,.bool true])) (h4:CQ 68 #[.string wh] (.bool false)) :
 CR 29 #[.string s] w (.tuple #[.string ⟨#[]⟩,.int .i64 3]):=by
 have HL:=hid hl
 have C1:=hid h1
 have C2:=hid h2
 have C3:=hid h3
 have C4:=hid h4
 clear hl h1 h2 h3 h4
 go_enter Tryz.func29,Tryz.ntmps29
 have HB0:=hid (Below.refl w.heap.size w)
 go_wp2_with fail
 with_reducible refine (C1.out _ (HL.out.on HB0.out)).mono ?_
 rintro e W1 ⟨rfl,hb⟩
 have HB1:=hid (HB0.out.trans (hb.mono HB0.out.size))
 clear hb
 go_wp2_with fail
 with_reducible refine (C2.out _).mono ?_
 rintro e W2 ⟨rfl,hb⟩
 have HB2:=hid (HB1.out.trans (hb.mono HB1.out.size))
 clear hb
 go_wp2_with fail
 with_reducible refine (C3.out _).mono ?_
 rintro e W3 ⟨rfl,hb⟩
 have HB3:=hid (HB2.out.trans (hb.mono HB2.out.size))
 clear hb
 go_wp2_with fail
 with_reducible refine (C4.out _).mono ?_
 rintro e W4 ⟨rfl,hb⟩
 have HB4:=hid (HB3.out.trans (hb.mono HB3.out.size))
 clear hb
 go_wp2
 exact bodyPost_ret (v:=.tuple #[.string ⟨#[]⟩,.int .i64 3]) (by simp [results,Tryz.results29,go_sem]) rfl ⟨rfl,HB4.out⟩
theorem parse_err3 (s z wh pl:ByteArray) (sg:Bool) (w:World) (hl:La w) (h1:CL 13 #[.string s] (.bool false)) (h2:CQ 66 #[.string s,.string ⟨#[45]⟩] (.tuple #[.string z,.bool sg])) (h3:CQ 67 #[.string z,.string ⟨#[46]⟩] (.tuple #[.string wh,.string pl,.bool true])) (h4:CQ 68 #[.string wh] (.bool true)) (h5:CQ 68 #[.string pl] (.bool false)) :
 CR 29 #[.string s] w (.tuple #[.string ⟨#[]⟩,.int .i64 3]):=by
 have HL:=hid hl
 have C1:=hid h1
 have C2:=hid h2
 have C3:=hid h3
 have C4:=hid h4
 have C5:=hid h5
 clear hl h1 h2 h3 h4 h5
 go_enter Tryz.func29,Tryz.ntmps29
 have HB0:=hid (Below.refl w.heap.size w)
 go_wp2_with fail
 with_reducible refine (C1.out _ (HL.out.on HB0.out)).mono ?_
 rintro e W1 ⟨rfl,hb⟩
 have HB1:=hid (HB0.out.trans (hb.mono HB0.out.size))
 clear hb
 go_wp2_with fail
 with_reducible refine (C2.out _).mono ?_
 rintro e W2 ⟨rfl,hb⟩
 have HB2:=hid (HB1.out.trans (hb.mono HB1.out.size))
 clear hb
 go_wp2_with fail
 with_reducible refine (C3.out _).mono ?_
 rintro e W3 ⟨rfl,hb⟩
 have HB3:=hid (HB2.out.trans (hb.mono HB2.out.size))
 clear hb
 go_wp2_with fail
 with_reducible refine (C4.out _).mono ?_
 rintro e W4 ⟨rfl,hb⟩
 have HB4:=hid (HB3.out.trans (hb.mono HB3.out.size))
 clear hb
 go_wp2_with fail
 with_reducible refine (C5.out _).mono ?_
 rintro e W5 ⟨rfl,hb⟩
 have HB5:=hid (HB4.out.trans (hb.mono HB4.out.size))
 clear hb
 go_wp2
 exact bodyPost_ret (v:=.tuple #[.string ⟨#[]⟩,.int .i64 3]) (by simp [results,Tryz.results29,go_sem]) rfl ⟨rfl,HB5.out⟩
theorem qDecimal_range (x:Rat) (n:Int) (hn:n<0∨64<n) (hx:FitQ x) (w:World) (hl:La w) :
 CR 27 #[.string (Sq x),.int .i64 n] w (.tuple #[.string ⟨#[]⟩,.int .i64 2]):=by
 rcases hn with hn|hn
 · exact decimal_neg (Sq x) _ _ n hn w hl (fun W hW=>fread_yes x hx W hW)
 · exact decimal_big (Sq x) _ _ n hn w hl (fun W hW=>fread_yes x hx W hW)
theorem cut_point {a b:List UInt8} (h:a.all isD=true):Lib.cut (a ++ 46 :: b) [46]=(a,b,true):=cut_hit 46 a b (digits_no46 h)
theorem qParse_bad (s:ByteArray) (l:List UInt8) (sg:Bool) (hv:vldQ s.data.toList=false) (hs:s.size≤900) (hl2:l.length≤900) (hno:∀ a b,l=a ++ 46 :: b→¬ DecForm a b) (w:World) (hl:La w)
 (h2:CQ 66 #[.string s,.string ⟨#[45]⟩] (.tuple #[.string ⟨l.toArray⟩,.bool sg])) :
 CR 29 #[.string s] w (.tuple #[.string ⟨#[]⟩,.int .i64 3]):=by
 have h1:=fun W hW=>qvalid_no s hv hs W hW
 have h3:=fun W=>cut1 46 ⟨l.toArray⟩ (by rw [size_mk];omega) W
 rw [mk_list] at h3
 rcases cut_parts 46 l with ⟨_,e⟩|⟨a,b,h46,el,e⟩
 · rw [e] at h3
   exact parse_err1 s _ _ _ sg w hl h1 h2 h3
 · rw [e] at h3
   have hlen:a.length+(b.length+1)=l.length:=by rw [el];simp
   have h4:=fun W=>rdigits_any a (by omega) W
   have h5:=fun W=>rdigits_any b (by omega) W
   have hd:=hno a b el
   cases ha:(decide (a≠[]) && a.all isD) with
   | false=>rw [ha] at h4;exact parse_err2 s _ _ _ sg w hl h1 h2 h3 h4
   | true =>
     rw [ha] at h4
     cases hb:(decide (b≠[]) && b.all isD) with
     | false=>rw [hb] at h5;exact parse_err3 s _ _ _ sg w hl h1 h2 h3 h4 h5
     | true =>
       exfalso
       rw [Bool.and_eq_true,decide_eq_true_eq] at ha hb
       exact hd ⟨ha.1,hb.1,ha.2,hb.2⟩
theorem trim_all {l:List UInt8} (h:l.all isD=true):(Lib.trimLeftB l 48=[]∧dval l=0)∨(Lib.trimLeftB l 48=Lib.decDigits (dval l)∧0<dval l):=by
 induction l with
 | nil=>exact Or.inl ⟨rfl,rfl⟩
 | cons c t ih =>
   rw [List.all_cons,Bool.and_eq_true] at h
   by_cases hc:c=48
   · subst hc
     have e1:Lib.trimLeftB (48 :: t) 48=Lib.trimLeftB t 48:=by unfold Lib.trimLeftB;rw [List.dropWhile_cons,if_pos (by decide)]
     have e2:dval (48 :: t)=dval t:=by
        rw [show (48 :: t:List UInt8)=[48] ++ t from rfl,dval_append]
        simp [dval]
     rw [e1,e2]
     exact ih h.2
   · have e1:Lib.trimLeftB (c :: t) 48=c :: t:=by unfold Lib.trimLeftB;rw [List.dropWhile_cons,if_neg (by simpa using hc)]
     have hv:vld (c :: t)=true:=(vld_iff _).2 ⟨by simp,by rw [List.all_cons,h.1,h.2];rfl,Or.inr (by
        simp only [List.headD_cons]
        intro e
        apply hc
        apply UInt8.toNat_inj.1
        rw [e];rfl)⟩
     right
     have e3:c :: t=Lib.decDigits (dval (c :: t)):=by
        have:=sn_of (a:=⟨(c :: t).toArray⟩) (by simpa using hv)
        have:=congrArg (fun b:ByteArray=>b.data.toList) this
        simpa [sn_list] using this
     refine ⟨by rw [e1];exact e3,?_⟩
     apply Nat.pos_of_ne_zero
     intro e0
     rw [e0] at e3
     have e4:Lib.decDigits 0=[48]:=by decide +kernel
     rw [e4] at e3
     injection e3 with e5 _
     exact hc e5
theorem qParse_dec (a b:List UInt8) (sg:Bool) (hd:DecForm a b) (s:ByteArray) (hs:s=⟨((if sg=true then [45] else []) ++ (a ++ 46 :: b)).toArray⟩) (h60:s.size≤60) (w:World) (hl:La w) :
 CR 29 #[.string s] w (.tuple #[.string (Sq (Rat.divInt (if sg=true then -(dval (a ++ b):Int) else (dval (a ++ b):Int)) ((10 ^ b.length:Nat):Int))),.int .i64 0]):=by
 obtain ⟨hn1,hn2,hd1,hd2⟩:=hd
 have hsz:s.size=(if sg=true then 1 else 0)+(a.length+(b.length+1)):=by
  rw [hs,size_mk]
  cases sg <;> simp <;> omega
 have hla:a.length≤60:=by omega
 have hlb:b.length≤60:=by omega
 have hlab:a.length+b.length≤60:=by omega
 have h46:(46:UInt8) ∉ a:=digits_no46 hd1
 have hv:vldQ s.data.toList=false:=by
  rw [hs,mk_list]
  refine vldQ_no46 (by cases sg <;> simp) ?_
  have no47:∀ l:List UInt8,l.all isD=true→(47:UInt8) ∉ l:=fun l h hm=>absurd (List.all_eq_true.1 h 47 hm) (by decide)
  have k1:=no47 a hd1
  have k2:=no47 b hd2
  cases sg <;> simp [k1,k2]
 have h1:=fun W hW=>qvalid_no s hv (by omega) W hW
 have h2:CQ 66 #[.string s,.string ⟨#[45]⟩] (.tuple #[.string ⟨(a ++ 46 :: b).toArray⟩,.bool sg]):=by
  intro W
  cases sg with
  | true=>rw [hs];exact calls_same (cut_neg (a ++ 46 :: b) W)
  | false =>
    have e0:s=⟨(a ++ 46 :: b).toArray⟩:=by rw [hs];rfl
    rw [e0]
    refine calls_same (cut_not _ (fun t ht=>?_) W)
    rw [mk_list] at ht
    cases a with
    | nil=>exact hn1 rfl
    | cons c u =>
      injection ht with e1 _
      subst e1
      exact digits_no45 hd1 (.head _)
 have h3:=fun W=>cut1 46 ⟨(a ++ 46 :: b).toArray⟩ (by rw [size_mk];simp;omega) W
 rw [mk_list,cut_point hd1] at h3
 have h4:=fun W=>rdigits_any a (by omega) W
 have h5:=fun W=>rdigits_any b (by omega) W
 rw [decide_eq_true hn1,hd1] at h4
 rw [decide_eq_true hn2,hd2] at h5
 have hall:(a ++ b).all isD=true:=by rw [List.all_append,hd1,hd2];rfl
 have h6:=fun W=>calls_same' (Tryz.strings_TrimLeft_one (⟨a.toArray⟩ ++ ⟨b.toArray⟩) 48 (by decide) W)
 rw [show ((⟨a.toArray⟩ ++ ⟨b.toArray⟩:ByteArray)).data.toList=a ++ b by simp] at h6
 have h7:=fun W=>rpow10 b.length (by omega) W
 have hp:Sm 61 ((10 ^ b.length:Nat):Int).natAbs:=sm_pow10 b.length 61 (by omega)
 have h10:((10 ^ b.length:Nat):Int)≠0:=by have:0<10 ^ b.length:=Nat.pow_pos (by decide);omega
 have sa:(⟨a.toArray⟩:ByteArray).size≤100000:=by rw [size_mk];omega
 have sb:(⟨b.toArray⟩:ByteArray).size≤100000:=by rw [size_mk];omega
 have hdv:dval (a ++ b)<10 ^ 60:=by
  have:=dval_lt (a ++ b) hall
  refine Nat.lt_of_lt_of_le this (Nat.pow_le_pow_right (by decide) (by rw [List.length_append];exact hlab))
 rcases trim_all hall with ⟨e1,e2⟩|⟨e1,e2⟩
 · rw [e1] at h6
   have ez:Sq (Rat.divInt (if sg=true then -(dval (a ++ b):Int) else (dval (a ++ b):Int)) ((10 ^ b.length:Nat):Int))=⟨#[48]⟩:=by
    rw [e2]
    have:(if sg=true then -((0:Nat):Int) else ((0:Nat):Int))=0:=by split <;> rfl
    rw [this,Rat.zero_divInt]
    exact q_0
   rw [ez]
   cases sg with
   | true=>exact parse_nzero_raw s _ _ _ ⟨#[]⟩ sa sb (by decide) w hl h1 h2 h3 h4 h5 h6
   | false=>exact parse_zero_raw s _ _ _ ⟨#[]⟩ sa sb (by decide) w hl h1 h2 h3 h4 h5 h6
 · rw [e1] at h6
   have hnn:((⟨(Lib.decDigits (dval (a ++ b))).toArray⟩:ByteArray).toList == [])=false:=nil_no (fun h=>dec_ne_nil _ (List.length_eq_zero_iff.1 h))
   have sn:(⟨(Lib.decDigits (dval (a ++ b))).toArray⟩:ByteArray).size≤200000:=by
    have:=sn_size (n:=dval (a ++ b)) (k:=60) hdv (by decide)
    exact Nat.le_trans this (by decide)
   have fz:Sm 60 ((dval (a ++ b):Int)).natAbs:=by rw [Int.natAbs_natCast];exact hdv
   have h7':CQ 61 #[.int .i64 ((⟨b.toArray⟩:ByteArray).size:Int)] (.string (Sz ((10 ^ b.length:Nat):Int))):=by
    rw [size_mk];exact h7
   cases sg with
   | true =>
     have hmk:=fun W hW=>qMake (-(dval (a ++ b):Int)) ((10 ^ b.length:Nat):Int) h10 (FitL.of (k:=60) (by rw [Int.natAbs_neg];exact fz) (by decide)) (FitL.of hp (by decide)) W hW
     rw [sz_neg (by omega)] at hmk
     have e8:(⟨(45 :: Lib.decDigits (dval (a ++ b))).toArray⟩:ByteArray)=⟨#[45]⟩ ++ ⟨(Lib.decDigits (dval (a ++ b))).toArray⟩:=by
       apply ByteArray.ext
       apply Array.ext'
       simp
     rw [e8] at hmk
     exact parse_neg_raw s _ _ _ _ _ _ 0 hnn sa sb sn w hl h1 h2 h3 h4 h5 h6 h7' hmk
   | false =>
     have hmk:=fun W hW=>qMake (dval (a ++ b):Int) ((10 ^ b.length:Nat):Int) h10 (FitL.of fz (by decide)) (FitL.of hp (by decide)) W hW
     rw [sz_nat] at hmk
     exact parse_pos_raw s _ _ _ _ _ _ 0 hnn sa sb sn w hl h1 h2 h3 h4 h5 h6 h7' hmk
end Go.Proofs.YtmigpoiajkihhaaGreatDoor
