/- Texts of this proof, one behind the other. -/
import Derived.Test.YtmigpoiajkihhaaGreatDoorQj
set_option maxRecDepth 100000
set_option maxHeartbeats 20000000
open Go.Lib (hid)
namespace Go.Proofs.YtmigpoiajkihhaaGreatDoor
open Go.RowKit Go.Gb
theorem nu (s:ByteArray)(a b:Nat):(s.extract a b).data.toList=(s.data.toList.drop a).take (b-a):=by
 simp[ByteArray.data_extract,List.extract_eq_take_drop]
theorem z1m (a b n d r:ByteArray)(hb0:(b.toList==[48])=false)(w:World)(hl:La w)
 (h1:CL 33 #[.string a] (.bool true))
 (h2:CL 33 #[.string b] (.bool true))
 (h3:CL 34 #[.string a,.string b] (.agg #[.string n,.string d]))
 (h4:CQ 35 #[.agg #[.string n,.string d]] (.string r)) :
 CR 9 #[.string a,.string b] w (.tuple #[.string r,.int .i64 0]):=by
 have C1:=hid h1
 have C2:=hid h2
 have C3:=hid h3
 have C4:=hid h4
 have HL:=hid hl
 have HB0:=hid (Below.refl w.heap.size w)
 clear h1 h2 h3 h4 hl
 go_enter Tryz.func9,Tryz.ntmps9
 go_wp2_with fail
 refine(C1.out _ (HL.out.on HB0.out)).mono ?_
 rintro e w1 ⟨rfl,hb⟩
 have HB1:=hbt HB0 hb
 clear hb
 go_wp2_with fail
 refine(C2.out _ (HL.out.on HB1.out)).mono ?_
 rintro e w2 ⟨rfl,hb⟩
 have HB2:=hbt HB1 hb
 clear hb
 go_wp2_with fail
 refine(C3.out _ (HL.out.on HB2.out)).mono ?_
 rintro e w3 ⟨rfl,hb⟩
 have HB3:=hbt HB2 hb
 clear hb
 go_wp2_with fail
 refine(C4.out _).mono ?_
 rintro e w4 ⟨rfl,hb⟩
 have HB4:=hbt HB3 hb
 clear hb
 go_wp2
 go_ret2
 exact⟨rfl,HB4.out⟩
theorem z04 (a b:Int)(hb:b≠0):(Rat.divInt a b).num.natAbs≤a.natAbs∧(Rat.divInt a b).den≤b.natAbs:=by
 rcases Int.lt_or_gt_of_ne hb with h|h
 · obtain⟨n,hn⟩:∃ n:Nat,b = -(n:Int):=⟨b.natAbs,by omega⟩
   subst hn
   have h2:=z1l (-a) n (by omega)
   rw[Rat.divInt_neg',Rat.divInt_ofNat]
   rw[Int.natAbs_neg]at h2
   rw[Int.natAbs_neg,Int.natAbs_natCast]
   exact h2
 · obtain⟨n,hn⟩:∃ n:Nat,b=(n:Int):=⟨b.natAbs,by omega⟩
   subst hn
   rw[Rat.divInt_ofNat,Int.natAbs_natCast]
   exact z1l a n (by omega)
theorem xu {k:Nat}{a b:Int}(hb:b≠0)(ha:Sm k a.natAbs)(h:Sm k b.natAbs):SmQ k (Rat.divInt a b):=by
 obtain⟨e1,e2⟩:=z04 a b hb
 exact⟨ha.le e1,h.le e2⟩
theorem z3N (a b:Int)(hb:b≠0)(ha:FitL a)(fb:FitL b)(w:World)(hl:La w) :
 CR 9 #[.string (Sz a),.string (Sz b)] w (.tuple #[.string (Sq (Rat.divInt a b)),.int .i64 0]):=by
 have hs:SmQ 1900 (Rat.divInt a b):=xu hb ha fb
 have h3:=fun W hW=>z2T a b hb ha fb W hW
 unfold Fv at h3
 exact z1m _ _ _ _ _ (uo hb) w hl (fun W hW=>bY a ha.z W hW.zz) (fun W hW=>bY b fb.z W hW.zz) h3 (fun W=>wR _ hs.1 (FitL.nat hs.2) W)
theorem tu:∀ n:Nat,Lib.decDigits (10^n)=49 :: Lib.repeatL [48] n
 | 0=>by decide +kernel
 | n+1=>by
   have h:=tu n
   have hp:1≤10^n:=Nat.one_le_pow _ _ (by decide)
   rw[Lib.decDigits,dif_neg (by rw[Nat.pow_succ];omega),show 10^(n+1) / 10=10^n by rw[Nat.pow_succ];omega,show 10^(n+1)%10=0 by rw[Nat.pow_succ];omega,h,Lib.repeatL_add [48] n 1,Lib.repeatL_one]
   rfl
theorem z0A (n:Nat):Sz ((10^n:Nat):Int)=⟨#[49]⟩++⟨(Lib.repeatL [48] n).toArray⟩:=by
 rw[dw]
 unfold Sn
 rw[tu]
 apply ByteArray.ext
 apply Array.ext'
 simp
theorem yY (n:Nat)(hn:n≤1000)(w:World) :
 CR 61 #[.int .i64 (n:Int)] w (.string (Sz ((10^n:Nat):Int))):=by
 have HR:=hid (Tryz.strings_Repeat ⟨#[48]⟩ n w (by omega) (by show 1*n≤_;omega))
 rw[show(⟨#[48]⟩:ByteArray).data.toList=[48]from rfl]at HR
 have hsz:(⟨(Lib.repeatL [48] n).toArray⟩:ByteArray).size=n:=by rw[size_mk,Lib.repeatL_length];simp
 have e1:=fun W:World=>run_string_add_sum (P:=Tryz.prog) W ⟨#[49]⟩ ⟨(Lib.repeatL [48] n).toArray⟩ (by rw[hsz];show 1+n≤_;omega)
 rw[← z0A]at e1
 generalize (⟨(Lib.repeatL [48] n).toArray⟩:ByteArray)=r at *
 generalize Sz ((10^n:Nat):Int)=s at *
 clear hsz hn
 go_enter Tryz.func61,Tryz.ntmps61
 go_wp2_with fail
 refine HR.out.mono ?_
 rintro e w1 ⟨rfl,hb⟩
 go_wp2
 go_ret
 exact⟨rfl,hb⟩
def z1j (x d:Int):Int:=if x<0 then -(((x.natAbs:Int)*2+d) / (d*2)) else ((x.natAbs:Int)*2+d) / (d*2)
theorem sJ (a b s t u v q r n:ByteArray)(w:World)(hl:La w)
 (h1:CL 108 #[.string a] (.tuple #[.string s,.int .i64 0]))
 (h2:CL 60 #[.string s,.string ⟨#[50]⟩] (.string t))
 (h3:CL 109 #[.string t,.string b] (.string u))
 (h4:CL 60 #[.string b,.string ⟨#[50]⟩] (.string v))
 (h5:CL 55 #[.string u,.string v] (.tuple #[.string q,.string r,.int .i64 0]))
 (h6:CL 71 #[.string a] (.int .i64 (-1)))
 (h7:CL 77 #[.string q] (.string n)) :
 CR 59 #[.string a,.string b] w (.string n):=by
 have C1:=hid h1
 have C2:=hid h2
 have C3:=hid h3
 have C4:=hid h4
 have C5:=hid h5
 have C6:=hid h6
 have C7:=hid h7
 have HL:=hid hl
 have HB0:=hid (Below.refl w.heap.size w)
 clear h1 h2 h3 h4 h5 h6 h7 hl
 go_enter Tryz.func59,Tryz.ntmps59
 go_wp2_with fail
 refine(C1.out _ (HL.out.on HB0.out)).mono ?_
 rintro e w1 ⟨rfl,hb⟩
 have HB1:=hbt HB0 hb
 clear hb
 go_wp2_with fail
 refine(C2.out _ (HL.out.on HB1.out)).mono ?_
 rintro e w2 ⟨rfl,hb⟩
 have HB2:=hbt HB1 hb
 clear hb
 go_wp2_with fail
 refine(C3.out _ (HL.out.on HB2.out)).mono ?_
 rintro e w3 ⟨rfl,hb⟩
 have HB3:=hbt HB2 hb
 clear hb
 go_wp2_with fail
 refine(C4.out _ (HL.out.on HB3.out)).mono ?_
 rintro e w4 ⟨rfl,hb⟩
 have HB4:=hbt HB3 hb
 clear hb
 go_wp2_with fail
 refine(C5.out _ (HL.out.on HB4.out)).mono ?_
 rintro e w5 ⟨rfl,hb⟩
 have HB5:=hbt HB4 hb
 clear hb
 go_wp2_with fail
 refine(C6.out _ (HL.out.on HB5.out)).mono ?_
 rintro e w6 ⟨rfl,hb⟩
 have HB6:=hbt HB5 hb
 clear hb
 go_wp2_with fail
 refine(C7.out _ (HL.out.on HB6.out)).mono ?_
 rintro e w7 ⟨rfl,hb⟩
 have HB7:=hbt HB6 hb
 clear hb
 go_wp2
 go_ret
 exact⟨rfl,HB7.out⟩
theorem sI (a b s t u v q r:ByteArray)(g:Int)(hg:0≤g)(w:World)(hl:La w)
 (h1:CL 108 #[.string a] (.tuple #[.string s,.int .i64 0]))
 (h2:CL 60 #[.string s,.string ⟨#[50]⟩] (.string t))
 (h3:CL 109 #[.string t,.string b] (.string u))
 (h4:CL 60 #[.string b,.string ⟨#[50]⟩] (.string v))
 (h5:CL 55 #[.string u,.string v] (.tuple #[.string q,.string r,.int .i64 0]))
 (h6:CL 71 #[.string a] (.int .i64 g)) :
 CR 59 #[.string a,.string b] w (.string q):=by
 have C1:=hid h1
 have C2:=hid h2
 have C3:=hid h3
 have C4:=hid h4
 have C5:=hid h5
 have C6:=hid h6
 have HL:=hid hl
 have HB0:=hid (Below.refl w.heap.size w)
 have hg1:decide (g<0)=false:=by rw[decide_eq_false_iff_not];omega
 clear hg h1 h2 h3 h4 h5 h6 hl
 go_enter Tryz.func59,Tryz.ntmps59
 go_wp2_with fail
 refine(C1.out _ (HL.out.on HB0.out)).mono ?_
 rintro e w1 ⟨rfl,hb⟩
 have HB1:=hbt HB0 hb
 clear hb
 go_wp2_with fail
 refine(C2.out _ (HL.out.on HB1.out)).mono ?_
 rintro e w2 ⟨rfl,hb⟩
 have HB2:=hbt HB1 hb
 clear hb
 go_wp2_with fail
 refine(C3.out _ (HL.out.on HB2.out)).mono ?_
 rintro e w3 ⟨rfl,hb⟩
 have HB3:=hbt HB2 hb
 clear hb
 go_wp2_with fail
 refine(C4.out _ (HL.out.on HB3.out)).mono ?_
 rintro e w4 ⟨rfl,hb⟩
 have HB4:=hbt HB3 hb
 clear hb
 go_wp2_with fail
 refine(C5.out _ (HL.out.on HB4.out)).mono ?_
 rintro e w5 ⟨rfl,hb⟩
 have HB5:=hbt HB4 hb
 clear hb
 go_wp2_with fail
 refine(C6.out _ (HL.out.on HB5.out)).mono ?_
 rintro e w6 ⟨rfl,hb⟩
 have HB6:=hbt HB5 hb
 clear hb
 go_wp2
 go_ret
 exact⟨rfl,HB6.out⟩
theorem wE (x d:Int)(hd:0<d)(hx:Sm 1800 x.natAbs)(fd:Sm 1800 d.natAbs)(w:World)(hl:La w) :
 CR 59 #[.string (Sz x),.string (Sz d)] w (.string (Sz (z1j x d))):=by
 have f2:Sm 1 (2:Int).natAbs:=show Sm 1 2 by simp[Sm]
 have s0:Sm 1800 (x.natAbs:Int).natAbs:=by rw[Int.natAbs_natCast];exact hx
 have s1:Sm 1801 ((x.natAbs:Int)*2).natAbs:=by rw[Int.natAbs_mul];exact(Sm.mul s0 f2).mono (by decide)
 have s2:Sm 1802 ((x.natAbs:Int)*2+d).natAbs:=Sm.le ((Sm.add s1 (fd.mono (by decide))).mono (by decide)) (Int.natAbs_add_le _ _)
 have s3:Sm 1801 (d*2).natAbs:=by rw[Int.natAbs_mul];exact(Sm.mul fd f2).mono (by decide)
 have f0:FitL x:=FitL.of hx (by decide)
 have fd1:FitL d:=FitL.of fd (by decide)
 have h1:=fun W (hW:La W)=>zAbs x f0.z W hW
 rw[← dw]at h1
 have h2:=fun W hW=>mJ (x.natAbs:Int) 2 _ rfl (FitL.of s0 (by decide)) fl2 (FitL.of s1 (by decide)) W hW
 have h3:=fun W hW=>z3B ((x.natAbs:Int)*2) d _ rfl (FitL.of s1 (by decide)) fd1 (FitL.of s2 (by decide)) W hW
 have h4:=fun W hW=>mJ d 2 _ rfl fd1 fl2 (FitL.of s3 (by decide)) W hW
 rw[z3q]at h2 h4
 have f3:FitL ((x.natAbs:Int)*2+d):=FitL.of s2 (by decide)
 have h5:=fun W (hW:La W)=>oQ ((x.natAbs:Int)*2+d) (d*2) _ _ (by omega) rfl rfl f3.z (FitL.of s3 (by decide)).z f3.succ W hW
 unfold z1j
 by_cases hn:x<0
 · rw[if_pos hn]
   have f4:FitL (((x.natAbs:Int)*2+d) / (d*2)):=FitL.le f3 (Int.natAbs_ediv_le_natAbs _ _)
   exact sJ _ _ _ _ _ _ _ _ _ w hl h1 h2 h3 h4 h5 (fun W hW=>ik _ _ (Int.sign_eq_neg_one_of_neg hn) f0 W hW) (fun W hW=>rneg _ _ rfl f4 W hW)
 · rw[if_neg hn]
   refine sI _ _ _ _ _ _ _ _ x.sign ?_ w hl h1 h2 h3 h4 h5 (fun W hW=>ik _ _ rfl f0 W hW)
   rcases Int.lt_trichotomy x 0 with h|h|h
   · omega
   · subst h;simp
   · rw[Int.sign_eq_one_of_pos h];decide
def padL (l:List UInt8) (n:Nat):List UInt8:=Lib.repeatL [48] (n+1-l.length)++l
def z2l (l:List UInt8) (n:Nat):List UInt8:=(padL l n).take ((padL l n).length-n)++46 :: (padL l n).drop ((padL l n).length-n)
theorem z2L (l:List UInt8)(n:Nat):(padL l n).length=max (n+1) l.length:=by
 unfold padL
 rw[List.length_append,Lib.repeatL_length]
 simp
 omega
def mQ (l:List UInt8) (n:Nat):ByteArray:=⟨(z2l l n).toArray⟩
theorem xN (a:ByteArray)(w:World) :
 CR 58 #[.string a,.int .i64 0] w (.string a):=by
 go_enter Tryz.func58,Tryz.ntmps58
 go_wp2
 go_ret
 exact⟨rfl,Below.refl _ _⟩
theorem zB (a dg:ByteArray)(n:Nat)(hn:1≤n)(hn2:n≤64)(hd:dg.size≤3000)(w:World)
 (h1:∀ W,Calls Tryz.prog 66 #[.string a,.string ⟨#[45]⟩] W fun e w'=>e=.returned (.tuple #[.string dg,.bool true])∧W=w') :
 CR 58 #[.string a,.int .i64 (n:Int)] w (.string (⟨#[45]⟩++mQ dg.data.toList n)):=by
 obtain⟨c,hc⟩:∃ c:Nat,c=n+1-dg.size:=⟨_,rfl⟩
 have HR:=hid (fun W=>Tryz.strings_Repeat ⟨#[48]⟩ c W (by omega) (by show 1*c≤_;omega))
 rw[show(⟨#[48]⟩:ByteArray).data.toList=[48]from rfl]at HR
 have hr:(⟨(Lib.repeatL [48] c).toArray⟩:ByteArray).size=c:=by rw[size_mk,Lib.repeatL_length];simp
 obtain⟨p,hp⟩:∃ p:ByteArray,p=⟨(Lib.repeatL [48] c).toArray⟩++dg:=⟨_,rfl⟩
 have hpl:p.data.toList=padL dg.data.toList n:=by
  rw[hp];unfold padL;rw[ax,← hc];simp
 have hps:p.size=max (n+1) dg.size:=by rw[← ax,hpl,z2L,ax]
 have e1:=fun W:World=>run_string_add_sum (P:=Tryz.prog) W ⟨(Lib.repeatL [48] c).toArray⟩ dg (by rw[hr];omega)
 rw[← hp]at e1
 obtain⟨m,hm⟩:∃ m:Nat,m+n=p.size:=⟨p.size-n,by omega⟩
 have x1:(p.extract 0 m).size=m:=by rw[ByteArray.size_extract];omega
 have x2:(p.extract m p.size).size=n:=by rw[ByteArray.size_extract];omega
 have z1:(⟨#[46]⟩:ByteArray).size=1:=rfl
 have x3:(p.extract 0 m++⟨#[46]⟩:ByteArray).size=m+1:=by rw[ByteArray.size_append,x1,z1]
 have e2:=fun W:World=>run_string_add_sum (P:=Tryz.prog) W (p.extract 0 m) ⟨#[46]⟩ (by rw[x1,z1];omega)
 have e3:=fun W:World=>run_string_add_sum (P:=Tryz.prog) W (p.extract 0 m++⟨#[46]⟩) (p.extract m p.size) (by rw[x3,x2];omega)
 have ef:p.extract 0 m++⟨#[46]⟩++p.extract m p.size=mQ dg.data.toList n:=by
  unfold mQ z2l
  rw[← hpl,ax,show p.size-n=m by omega]
  apply ByteArray.ext
  apply Array.ext'
  simp only[ByteArray.data_append,Array.toList_append]
  rw[nu,nu]
  simp
  rw[List.take_of_length_le (by rw[List.length_drop,ax];omega)]
 rw[ef]at e3
 have z2:(⟨#[45]⟩:ByteArray).size=1:=rfl
 have x4:(mQ dg.data.toList n).size=m+1+n:=by rw[← ef,ByteArray.size_append,x3,x2]
 have e4:=fun W:World=>run_string_add_sum (P:=Tryz.prog) W ⟨#[45]⟩ (mQ dg.data.toList n) (by rw[z2,x4];omega)
 generalize mQ dg.data.toList n=out at *
 have k0:((n:Int)==0)=false:=by rw[beq_eq_false_iff_ne];omega
 have k1:IntKind.i64.wrap ((n:Int)+1)=(n:Int)+1:=IntWalk.i64_in _ (by omega)
 have k2:IntKind.i64.wrap ((n:Int)+1-(dg.size:Int))=(n:Int)+1-(dg.size:Int):=IntWalk.i64_in _ (by omega)
 have k3:max (0:Int) ((n:Int)+1-(dg.size:Int))=(c:Int):=by omega
 have k4:(p.size:Int)-(n:Int)=(m:Int):=by omega
 have k5:IntKind.i64.wrap (m:Int)=(m:Int):=IntWalk.i64_in _ (by omega)
 have k6:(m:Int)≤(p.size:Int):=by omega
 have C1:=hid h1
 have kn:¬ (n:Int)=0:=by omega
 clear h1 hc hr hp hpl hps hm x1 x2 z1 x3 ef hn hn2 hd z2 x4
 go_enter Tryz.func58,Tryz.ntmps58
 go_wp2_with fail
 refine(C1.out _).mono ?_
 rintro e w' ⟨rfl,rfl⟩
 go_wp2_with fail
 refine(HR.out _).mono ?_
 rintro e w1 ⟨rfl,hb⟩
 have HB:=hid hb
 clear hb
 go_wp2
 go_region
 all_goals
  go_wp2
  go_ret
  exact⟨rfl,HB.out.drew⟩
end Go.Proofs.YtmigpoiajkihhaaGreatDoor
namespace Go.Gb
open Go
section
variable {P:Program} {ops:Array Oper} {Q:Exit→Act→World→Prop} {md:Region.Mode}
def Closed (md:Region.Mode) (ops:Array Oper) (listed:Array Bool):Prop:=∀ j i,listed.getD j false=true→Region.waitsFor md ops j i=true→listed.getD i false=true
theorem z0x {j i:Nat}{o:Oper}(ho:ops[j]? = some o)(h:Region.waitsFor md ops j i=true):∃ e∈o.after,Region.binds md e=true∧e.on=i:=by
 obtain⟨o',ho',e,he,hb⟩:=Region.waitsFor_spec h
 obtain rfl:o'=o:=Option.some.inj (ho'.symm.trans ho)
 exact⟨e,he,hb⟩
theorem gB {listed:Array Bool}{j i:Nat}(hj:j∈Region.ready md ops listed)(h:Region.waitsFor md ops j i=true):listed.getD i false=true:=by
 obtain⟨_,o,ho,hall⟩:=mem_ready.1 hj
 obtain⟨e,he,hb,rfl⟩:=z0x ho h
 exact hall e he hb
theorem pV {listed:Array Bool}{j:Nat}(hj:j∈Region.ready md ops listed):listed.getD j true=false:=(mem_ready.1 hj).1
theorem eF {listed:Array Bool}{j:Nat}(hj:j∈Region.ready md ops listed):j<ops.size:=by
 obtain⟨_,o,ho,_⟩:=mem_ready.1 hj
 exact(Array.getElem?_eq_some_iff.1 ho).1
theorem eZ {listed:Array Bool}{i j:Nat}(h:(listed.setIfInBounds i true).getD j false=true):j=i∨listed.getD j false=true:=by
 by_cases hij:j=i
 · exact Or.inl hij
 · right
   simp only[Array.getD_eq_getD_getElem?]at h ⊢
   rwa [Array.getElem?_setIfInBounds_ne (Ne.symm hij)]at h
theorem kv {listed:Array Bool}{i j:Nat}(h:listed.getD j false=true):(listed.setIfInBounds i true).getD j false=true:=by
 simp only[Array.getD_eq_getD_getElem?]at h ⊢
 by_cases hij:i=j
 · subst hij
   rw[Array.getElem?_setIfInBounds_self]
   split
   · rfl
   · rename_i hlt
     rw[Array.getElem?_eq_none (by omega)]at h
     exact h
 · rw[Array.getElem?_setIfInBounds_ne hij];exact h
theorem Closed.set {listed:Array Bool}{i:Nat}(h:Closed md ops listed)(hi:i∈Region.ready md ops listed):Closed md ops (listed.setIfInBounds i true):=by
 intro j k hj hw
 rcases eZ hj with rfl|hj
 · exact kv (gB hi hw)
 · exact kv (h j k hj hw)
theorem jN (n:Nat):Closed md ops (Array.replicate n false):=by
 intro j i hj _
 exfalso
 simp only[Array.getD_eq_getD_getElem?,Array.getElem?_replicate]at hj
 split at hj<;>simp at hj
theorem qZ (I:Array Bool→Act→World→Prop)
 (hstep:∀ listed a w i,I listed a w→i∈Region.ready md ops listed→wpOp P ops Q i (fun a' w'=>I (listed.setIfInBounds i true) a' w') a w)
 (hend:∀ listed a w,I listed a w→Region.ready md ops listed=[]→Q .normal a w) :
 ∀ (n:Nat) (U:List Nat) (listed:Array Bool) (a:Act) (w:World),U.length=n→U.Nodup→(∀ i,i∈U↔(i<ops.size∧listed.getD i true=false))→listed.size=ops.size→I listed a w→wpAny P md ops Q n listed a w
 | 0,U,listed,a,w,hn,_,hU,_,hI=>by
   have h0:Region.ready md ops listed=[]:=by
    apply List.eq_nil_iff_forall_not_mem.2
    intro i hi
    have hm:=(hU i).2 ⟨eF hi,pV hi⟩
    rw[List.length_eq_zero_iff.1 hn]at hm
    cases hm
   exact⟨h0,hend listed a w hI h0⟩
 | n+1,U,listed,a,w,hn,hd,hU,hs,hI=>by
   refine⟨fun h0=>hend listed a w hI h0,fun i hi=>?_⟩
   refine wpOp_mono (fun a' w' hI'=>?_) (hstep listed a w i hI hi)
   have hm:=(hU i).2 ⟨eF hi,pV hi⟩
   refine qZ I hstep hend n (U.erase i) _ a' w' (by rw[List.length_erase_of_mem hm,hn];rfl) (hd.erase i) (fun j=>?_) (by simpa using hs) hI'
   rw[hd.mem_erase_iff,hU j]
   simp only[Array.getD_eq_getD_getElem?]
   by_cases hij:j=i
   · subst hij
     rw[Array.getElem?_setIfInBounds_self_of_lt (by rw[hs];exact eF hi)]
     simp
   · rw[Array.getElem?_setIfInBounds_ne (Ne.symm hij)]
     simp[hij]
theorem dL {id:Nat}{a:Act}{w:World}(hm:P.follows .mixedOrders=true)(I:Array Bool→Act→World→Prop)
 (hstart:I (Array.replicate ops.size false) a w.drew)
 (hstep:∀ listed a w i,I listed a w→i∈Region.ready .any ops listed→wpOp P ops Q i (fun a' w'=>I (listed.setIfInBounds i true) a' w') a w)
 (hend:∀ listed a w,I listed a w→Region.ready .any ops listed=[]→Q .normal a w):(Code.region id ops true).wp P Q a w:=by
 refine wp_region_any hm ?_
 refine qZ I hstep hend ops.size (List.range ops.size) _ a _ (by simp) List.nodup_range (fun i=>?_) (by simp) hstart
 rw[List.mem_range]
 simp only[Array.getD_eq_getD_getElem?,Array.getElem?_replicate]
 constructor
 · intro h;exact⟨h,by rw[if_pos h];rfl⟩
 · intro h;exact h.1
def z0f (md:Region.Mode) (ops:Array Oper):Bool:=(List.range ops.size).all fun j=>match ops[j]? with
 | some o=>o.after.all fun e => !Region.binds md e || decide (e.on<j)
 | none=>true
theorem z3d (hb:z0f md ops=true){j i:Nat}(h:Region.waitsFor md ops j i=true):i<j:=by
 obtain⟨o,ho,e,he,hbi,rfl⟩:=Region.waitsFor_spec h
 have hj:j<ops.size:=(Array.getElem?_eq_some_iff.1 ho).1
 have h1:=List.all_eq_true.1 hb j (List.mem_range.2 hj)
 rw[ho]at h1
 simp only at h1
 have h2:=Array.all_eq_true'.1 h1 e he
 rw[hbi]at h2
 simpa using h2
theorem eu {listed:Array Bool}(hs:listed.size=ops.size)(hb:z0f md ops=true)(h:Region.ready md ops listed=[]):∀ j,j<ops.size→listed.getD j false=true:=by
 intro j
 induction j using Nat.strongRecOn with
 | _ j ih =>
   intro hj
   cases hl:listed.getD j true with
   | true =>
     simp only[Array.getD_eq_getD_getElem?]at hl ⊢
     have hlt:j<listed.size:=by omega
     rw[Array.getElem?_eq_getElem hlt]at hl ⊢
     exact hl
   | false =>
     exfalso
     obtain⟨o,ho⟩:∃ o,ops[j]? = some o:=⟨ops[j],Array.getElem?_eq_getElem hj⟩
     have hr:j∈Region.ready md ops listed:=by
       refine mem_ready.2 ⟨hl,o,ho,fun e he hbi=>?_⟩
       have hw:Region.waitsFor md ops j e.on=true:=by
        unfold Region.waitsFor
        rw[ho]
        simp only
        refine Array.any_eq_true'.2 ⟨e,he,?_⟩
        simp[hbi]
       have h1:=z3d hb hw
       exact ih e.on h1 (by omega)
     rw[h]at hr
     cases hr
structure SInv (ops:Array Oper) (lo m:Nat) (val:Nat→Value) (a0:Act) (W:Array Bool→World→Prop) (listed:Array Bool) (a:Act) (w:World):Prop where
 closed:Closed .any ops listed
 size:listed.size=ops.size
 slots:∀ i,i<m→listed.getD i false=true→a.tmps[lo+i]? = some (val i)
 rest:∀ d,(d<lo∨lo+m≤d)→a.tmps[d]? = a0.tmps[d]?
 tsize:a.tmps.size=a0.tmps.size
 defers:a.defers=a0.defers
 world:W listed w
theorem SInv.start {lo m:Nat}{val:Nat→Value}{a:Act}{W:Array Bool→World→Prop}{w:World}(h:W (Array.replicate ops.size false) w):SInv ops lo m val a W (Array.replicate ops.size false) a w :=
 ⟨jN _,by simp,fun i _ hi=>by
  exfalso
  simp only[Array.getD_eq_getD_getElem?,Array.getElem?_replicate]at hi
  split at hi<;>simp at hi,fun _ _=>rfl,rfl,rfl,h⟩
theorem SInv.put {lo m i d:Nat}{v:Value}{val:Nat→Value}{a a0:Act}{W:Array Bool→World→Prop}{listed:Array Bool}{w w':World}(h:SInv ops lo m val a0 W listed a w)(hi:i∈Region.ready .any ops listed)(hm:i<m)(hd:d=lo+i)(hv:v=val i)
 (hlo:lo+m≤a0.tmps.size) (hW:W (listed.setIfInBounds i true) w'):SInv ops lo m val a0 W (listed.setIfInBounds i true) (a.put (some d) v) w':=by
 subst hd hv
 have hp:(a.put (some (lo+i)) (val i)).tmps=a.tmps.setIfInBounds (lo+i) (val i):=rfl
 have hts:=h.tsize
 refine⟨h.closed.set hi,by simpa using h.size,fun j hj hl=>?_,fun e he=>?_,by rw[hp];simpa using hts,h.defers,hW⟩
 · rw[hp]
   by_cases hji:j=i
   · subst hji
     rw[Array.getElem?_setIfInBounds_self_of_lt (by omega)]
   · rw[Array.getElem?_setIfInBounds_ne (by omega)]
     rcases eZ hl with h2|h2
     · exact absurd h2 hji
     · exact h.slots j hj h2
 · rw[hp,Array.getElem?_setIfInBounds_ne (by omega)]
   exact h.rest e he
theorem SInv.skip {lo m i:Nat}{v:Value}{val:Nat→Value}{a a0:Act}{W:Array Bool→World→Prop}{listed:Array Bool}{w w':World}(h:SInv ops lo m val a0 W listed a w)(hi:i∈Region.ready .any ops listed)(hm:m≤i)
 (hW:W (listed.setIfInBounds i true) w'):SInv ops lo m val a0 W (listed.setIfInBounds i true) (a.put none v) w':=by
 refine⟨h.closed.set hi,by simpa using h.size,fun j hj hl=>?_,h.rest,h.tsize,h.defers,hW⟩
 rcases eZ hl with h2|h2
 · omega
 · exact h.slots j hj h2
theorem SInv.at {lo m i j:Nat}{val:Nat→Value}{a a0:Act}{W:Array Bool→World→Prop}{listed:Array Bool}{w:World}(h:SInv ops lo m val a0 W listed a w)(hj:j∈Region.ready .any ops listed)(hw:Region.waitsFor .any ops j i=true)(hm:i<m) :
 a.tmps[lo+i]? = some (val i):=h.slots i hm (gB hj hw)
theorem SInv.not {lo m i j:Nat}{val:Nat→Value}{a a0:Act}{W:Array Bool→World→Prop}{listed:Array Bool}{w:World}(h:SInv ops lo m val a0 W listed a w)(hw:Region.waitsFor .any ops j i=true)(hi:listed.getD i false=false):listed.getD j false=false:=by
 cases hj:listed.getD j false with
 | false=>rfl
 | true=>rw[h.closed j i hj hw]at hi;cases hi
theorem bP {listed:Array Bool}{j:Nat}(hj:j∈Region.ready md ops listed):listed.getD j false=false:=by
 have h:=pV hj
 simp only[Array.getD_eq_getD_getElem?]at h ⊢
 cases hc:listed[j]? with
 | none=>rw[hc]at h;simp at h
 | some b=>rw[hc]at h;simpa using h
theorem SInv.done {lo m:Nat}{val:Nat→Value}{a a0:Act}{W:Array Bool→World→Prop}{listed:Array Bool}{w:World}(h:SInv ops lo m val a0 W listed a w)(hall:∀ j,j<ops.size→listed.getD j false=true)(hm:m≤ops.size)(a1:Act)
 (h1:∀ i,i<m→a1.tmps[lo+i]? = some (val i)) (h2:∀ d,(d<lo∨lo+m≤d)→a1.tmps[d]? = a0.tmps[d]?) (h3:a1.defers=a0.defers):a=a1:=by
 have ht:a.tmps=a1.tmps:=by
  apply Array.ext_getElem?
  intro d
  by_cases hd:d<lo∨lo+m≤d
  · rw[h.rest d hd,h2 d hd]
  · obtain⟨i,rfl⟩:∃ i,d=lo+i:=⟨d-lo,by omega⟩
    rw[h.slots i (by omega) (hall i (by omega)),h1 i (by omega)]
 have hd:=h.defers
 cases a;cases a1
 simp only at ht hd h3
 rw[ht,hd,h3]
def puts (lo:Nat):List Value→Array Value→Array Value
 | [],t=>t
 | v :: vs,t=>puts (lo+1) vs (t.setIfInBounds lo v)
theorem qi:∀ (vs:List Value) (lo:Nat) (t:Array Value) (d:Nat),(d<lo∨lo+vs.length≤d)→(puts lo vs t)[d]? = t[d]?
 | [],_,_,_,_=>rfl
 | v :: vs,lo,t,d,h=>by
   rw[puts,qi vs (lo+1) _ d (by simp at h;omega),Array.getElem?_setIfInBounds_ne (by simp at h;omega)]
theorem zx:∀ (vs:List Value) (lo:Nat) (t:Array Value) (i:Nat) (v:Value),lo+vs.length≤t.size→vs[i]? = some v→(puts lo vs t)[lo+i]? = some v
 | [],_,_,_,_,_,h=>by simp at h
 | u :: vs,lo,t,0,v,hs,h=>by
   simp at h hs
   subst h
   rw[puts,qi vs (lo+1) _ (lo+0) (Or.inl (by omega)),Nat.add_zero,Array.getElem?_setIfInBounds_self_of_lt (by omega)]
 | u :: vs,lo,t,i+1,v,hs,h=>by
   simp at h hs
   rw[puts,show lo+(i+1)=lo+1+i by omega]
   exact zx vs (lo+1) _ i v (by simp;omega) h
theorem SInv.finish {lo m:Nat}{val:Nat→Value}{a a0:Act}{W:Array Bool→World→Prop}{listed:Array Bool}{w:World}(h:SInv ops lo m val a0 W listed a w)(hall:∀ j,j<ops.size→listed.getD j false=true)(hm:m≤ops.size)(vs:List Value)(hl:vs.length=m)
 (hv:∀ i,i<m→vs[i]? = some (val i)) (hlo:lo+m≤a0.tmps.size):a=⟨puts lo vs a0.tmps,a0.defers⟩ :=
 h.done hall hm ⟨puts lo vs a0.tmps,a0.defers⟩ (fun i hi=>zx vs lo _ i _ (by omega) (hv i hi)) (fun d hd=>qi vs lo _ d (by omega)) rfl
end
end Go.Gb
namespace Go.Proofs.YtmigpoiajkihhaaGreatDoor
open Go.RowKit Go.Gb
def Mem (w w':World) (f:Nat→ByteArray × ByteArray):Prop:=Below w.heap.size w w'∧w.heap.size+5≤w'.heap.size∧∀ k,k<5→(w'.cell? ⟨w.heap.size+k,0,none⟩=some (.string (f k).1)∧w'.cell? ⟨w.heap.size+k,1,none⟩=some (.string (f k).2)∧w'.frozen? ⟨w.heap.size+k,0,none⟩=false∧w'.frozen? ⟨w.heap.size+k,1,none⟩=false)
theorem Mem.call {w a b:World}{f:Nat→ByteArray × ByteArray}(h:Mem w a f)(hb:Below a.heap.size a b):Mem w b f:=by
 obtain⟨h1,h2,h3⟩:=h
 refine⟨h1.trans (hb.mono h1.size),Nat.le_trans h2 hb.size,fun k hk=>?_⟩
 obtain⟨c0,c1,f0,f1⟩:=h3 k hk
 exact⟨(hb.cell (p:=⟨w.heap.size+k,0,none⟩) (by show w.heap.size+k<_;omega)).trans c0,(hb.cell (p:=⟨w.heap.size+k,1,none⟩) (by show w.heap.size+k<_;omega)).trans c1,(hb.frozen (p:=⟨w.heap.size+k,0,none⟩) (by show w.heap.size+k<_;omega)).trans f0,(hb.frozen (p:=⟨w.heap.size+k,1,none⟩) (by show w.heap.size+k<_;omega)).trans f1⟩
theorem Mem.drew {w a:World}{f:Nat→ByteArray × ByteArray}(h:Mem w a f):Mem w a.drew f:=⟨h.1.drew,h.2.1,h.2.2⟩
def upd (f:Nat→ByteArray × ByteArray) (k:Nat) (u v:ByteArray):Nat→ByteArray × ByteArray:=fun j=>if j=k then (u,v) else f j
theorem z2i {w:World}{v u:Value}{b i:Nat}(h:w.cell? ⟨b,i,none⟩=some u):(w.setCell ⟨b,i,none⟩ v).cell? ⟨b,i,none⟩=some v:=World.cell?_setCell_same _ _ _ h
theorem z3J {w:World}{v:Value}{b i k:Nat}(h:i≠k):(w.setCell ⟨b,i,none⟩ v).cell? ⟨b,k,none⟩=w.cell? ⟨b,k,none⟩:=World.cell?_setCell_other _ _ _ _ (by intro e;injection e with e1 e2;exact h e2)
theorem wT {w:World}{v:Value}{p q:Addr}:(w.setCell p v).frozen? q=w.frozen? q:=by simp
theorem Mem.store {w a:World}{f:Nat→ByteArray × ByteArray}(h:Mem w a f)(k:Nat)(hk:k<5)(u v:ByteArray):Mem w ((a.setCell ⟨w.heap.size+k,0,none⟩ (.string u)).setCell ⟨w.heap.size+k,1,none⟩ (.string v)) (upd f k u v):=by
 obtain⟨h1,h2,h3⟩:=h
 refine⟨(h1.setCell (p:=⟨w.heap.size+k,0,none⟩) (by show w.heap.size≤w.heap.size+k;omega) _).setCell (p:=⟨w.heap.size+k,1,none⟩) (by show w.heap.size≤w.heap.size+k;omega) _,by simpa using h2,fun j hj=>?_⟩
 obtain⟨c0,c1,f0,f1⟩:=h3 j hj
 rw[wT,wT,wT,wT]
 unfold upd
 by_cases hjk:j=k
 · subst hjk
   rw[if_pos rfl]
   exact⟨(z3J (by decide)).trans (z2i c0),z2i ((z3J (by decide)).trans c1),f0,f1⟩
 · rw[if_neg hjk]
   exact⟨(dm (by omega)).trans ((dm (by omega)).trans c0),(dm (by omega)).trans ((dm (by omega)).trans c1),f0,f1⟩
def Fl (f:Nat→ByteArray × ByteArray) (bf ls nw:ByteArray × ByteArray) (listed:Array Bool):Nat→ByteArray × ByteArray:=fun k=>if k=3 then (if listed.getD 16 false=true then ls else bf) else if k=4 then (if listed.getD 17 false=true then nw else ls) else f k
theorem aM {f:Nat→ByteArray × ByteArray}{bf ls nw:ByteArray × ByteArray}{listed:Array Bool}{i:Nat}(h1:i≠16)(h2:i≠17):Fl f bf ls nw (listed.setIfInBounds i true)=Fl f bf ls nw listed:=by
 unfold Fl
 rw[getD_set_ne false h1,getD_set_ne false h2]
theorem ku {listed:Array Bool}{i:Nat}(h:i<listed.size):(listed.setIfInBounds i true).getD i false=true:=by
 simp only[Array.getD_eq_getD_getElem?]
 rw[Array.getElem?_setIfInBounds_self_of_lt h];rfl
theorem z2X {f:Nat→ByteArray × ByteArray}{bf ls nw:ByteArray × ByteArray}{listed:Array Bool}(h:listed.size=18):Fl f bf ls nw (listed.setIfInBounds 16 true)=upd (Fl f bf ls nw listed) 3 ls.1 ls.2:=by
 funext k
 unfold Fl upd
 rw[ku (by omega),getD_set_ne false (by decide)]
 by_cases hk:k=3
 · simp[hk]
 · simp[hk]
theorem z2W {f:Nat→ByteArray × ByteArray}{bf ls nw:ByteArray × ByteArray}{listed:Array Bool}(h:listed.size=18):Fl f bf ls nw (listed.setIfInBounds 17 true)=upd (Fl f bf ls nw listed) 4 nw.1 nw.2:=by
 funext k
 unfold Fl upd
 rw[ku (by omega),getD_set_ne false (by decide)]
 by_cases hk:k=4
 · simp[hk]
 · simp[hk]
def Vl (q:ByteArray) (p3 p4:Nat) (bf ls:ByteArray × ByteArray) (a b c d:ByteArray):Nat→Value
 | 0 => .agg #[.string ls.1,.string ls.2]
 | 1 => .string q
 | 2 => .pointer (some ⟨p4,0,none⟩)
 | 3 => .string ls.1
 | 4 => .string a
 | 5 => .pointer (some ⟨p3,0,none⟩)
 | 6 => .string bf.1
 | 7 => .string b
 | 8 => .string q
 | 9 => .pointer (some ⟨p4,1,none⟩)
 | 10 => .string ls.2
 | 11 => .string c
 | 12 => .pointer (some ⟨p3,1,none⟩)
 | 13 => .string bf.2
 | 14 => .string d
 | 15 => .agg #[.string b,.string d]
 | _=>undef
theorem Mem.facts {w a:World}{f:Nat→ByteArray × ByteArray}(h:Mem w a f) :
 (a.cell? ⟨w.heap.size,0,none⟩=some (.string (f 0).1)∧a.cell? ⟨w.heap.size,1,none⟩=some (.string (f 0).2)∧a.frozen? ⟨w.heap.size,0,none⟩=false∧a.frozen? ⟨w.heap.size,1,none⟩=false) ∧
 (a.cell? ⟨w.heap.size+1,0,none⟩=some (.string (f 1).1)∧a.cell? ⟨w.heap.size+1,1,none⟩=some (.string (f 1).2)∧a.frozen? ⟨w.heap.size+1,0,none⟩=false∧a.frozen? ⟨w.heap.size+1,1,none⟩=false) ∧
 (a.cell? ⟨w.heap.size+1+1,0,none⟩=some (.string (f 2).1)∧a.cell? ⟨w.heap.size+1+1,1,none⟩=some (.string (f 2).2)∧a.frozen? ⟨w.heap.size+1+1,0,none⟩=false∧a.frozen? ⟨w.heap.size+1+1,1,none⟩=false) ∧
 (a.cell? ⟨w.heap.size+1+1+1,0,none⟩=some (.string (f 3).1)∧a.cell? ⟨w.heap.size+1+1+1,1,none⟩=some (.string (f 3).2)∧a.frozen? ⟨w.heap.size+1+1+1,0,none⟩=false∧a.frozen? ⟨w.heap.size+1+1+1,1,none⟩=false) ∧
 (a.cell? ⟨w.heap.size+1+1+1+1,0,none⟩=some (.string (f 4).1)∧a.cell? ⟨w.heap.size+1+1+1+1,1,none⟩=some (.string (f 4).2)∧a.frozen? ⟨w.heap.size+1+1+1+1,0,none⟩=false∧a.frozen? ⟨w.heap.size+1+1+1+1,1,none⟩=false) :=
 ⟨h.2.2 0 (by decide),h.2.2 1 (by decide),h.2.2 2 (by decide),h.2.2 3 (by decide),h.2.2 4 (by decide)⟩
end Go.Proofs.YtmigpoiajkihhaaGreatDoor
