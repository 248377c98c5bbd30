/- Texts of this proof, one behind the other. -/
import Derived.Test.YtmigpoiajkihhaaGreatDoorMz39q
import Derived.Test.YtmigpoiajkihhaaGreatDoorMz1q
import Derived.Test.YtmigpoiajkihhaaGreatDoorMz41q
import Derived.Test.YtmigpoiajkihhaaGreatDoorMz17q
import Derived.Test.YtmigpoiajkihhaaGreatDoorMz12q
import Derived.Test.YtmigpoiajkihhaaGreatDoorMz37q
import Derived.Test.YtmigpoiajkihhaaGreatDoorSa
import Derived.Deep.QuietTactic
import Derived.BigQuiet
/- garboardref02: Over of any integers, DivMod of texts: walks. -/
namespace Go.Proofs.YtmigpoiajkihhaaGreatDoor
open Go.RowKit Go.Gb
theorem nat_div (x y:Int):((y.natAbs:Nat):Int) * ((x.natAbs / y.natAbs:Nat):Int)+((x.natAbs % y.natAbs:Nat):Int)=(x.natAbs:Int):=by
 exact_mod_cast Nat.div_add_mod x.natAbs y.natAbs
theorem over_pos (x y:Int) (hy:y≠0) (hx:zneg x=false):x / y=(if zneg y then -((x.natAbs / y.natAbs:Nat):Int) else ((x.natAbs / y.natAbs:Nat):Int))∧x % y=((x.natAbs % y.natAbs:Nat):Int):=by
 have hx0:¬ x<0:=of_decide_eq_false hx
 have h1:=nat_div x y
 have h2:=Nat.mod_lt x.natAbs (y:=y.natAbs) (by omega)
 refine div_of_formula x y hy _ _ ⟨?_,by omega,by omega⟩
 generalize ((x.natAbs / y.natAbs:Nat):Int)=q at *
 unfold zneg
 by_cases h:y<0
 · have e:y * q = -((y.natAbs:Int) * q):=by rw [show (y.natAbs:Int) = -y by omega,Int.neg_mul,Int.neg_neg]
   rw [decide_eq_true h,if_pos rfl,Int.mul_neg];omega
 · rw [decide_eq_false h,if_neg (by simp)]
   have e:y * q=(y.natAbs:Int) * q:=by rw [show (y.natAbs:Int)=y by omega]
   omega
theorem over_exact (x y:Int) (hy:y≠0) (hx:zneg x=true) (h0:x.natAbs % y.natAbs=0):x / y=(if !zneg y then -((x.natAbs / y.natAbs:Nat):Int) else ((x.natAbs / y.natAbs:Nat):Int))∧x % y=0:=by
 have hx0:x<0:=of_decide_eq_true hx
 have h1:=nat_div x y
 rw [h0] at h1
 refine div_of_formula x y hy _ _ ⟨?_,by omega,by omega⟩
 generalize ((x.natAbs / y.natAbs:Nat):Int)=q at *
 unfold zneg
 by_cases h:y<0
 · rw [decide_eq_true h]
   have e:y * q = -((y.natAbs:Int) * q):=by rw [show (y.natAbs:Int) = -y by omega,Int.neg_mul,Int.neg_neg]
   simp;omega
 · rw [decide_eq_false h]
   have e:y * q=(y.natAbs:Int) * q:=by rw [show (y.natAbs:Int)=y by omega]
   simp [Int.mul_neg];omega
theorem over_neg (x y:Int) (hy:y≠0) (hx:zneg x=true) (h0:x.natAbs % y.natAbs≠0):x / y=(if !zneg y then -((x.natAbs / y.natAbs+1:Nat):Int) else ((x.natAbs / y.natAbs+1:Nat):Int))∧x % y=((y.natAbs - x.natAbs % y.natAbs:Nat):Int):=by
 have hx0:x<0:=of_decide_eq_true hx
 have h1:=nat_div x y
 have h2:=Nat.mod_lt x.natAbs (y:=y.natAbs) (by omega)
 refine div_of_formula x y hy _ _ ⟨?_,by omega,by omega⟩
 rw [Int.natCast_add]
 generalize ((x.natAbs / y.natAbs:Nat):Int)=q at *
 unfold zneg
 by_cases h:y<0
 · rw [decide_eq_true h]
   have e:y * q = -((y.natAbs:Int) * q):=by rw [show (y.natAbs:Int) = -y by omega,Int.neg_mul,Int.neg_neg]
   simp [Int.mul_add];omega
 · rw [decide_eq_false h]
   have e:y * q=(y.natAbs:Int) * q:=by rw [show (y.natAbs:Int)=y by omega]
   simp [Int.mul_add,Int.mul_neg];omega
theorem nlen_pos {n:Nat} (h:n≠0):0<nlen n:=List.length_pos_iff.2 (by rw [digs_pos h];simp)
theorem sOver (x y q r:Int) (hq:x / y=q) (hr:x % y=r) (hy:y≠0) (hx:zlen x≤50000) (hly:zlen y≤50000) (p1:Option Addr) (c1:Nat) (p2:Option Addr) (c2:Nat) (w:World) (r1:RN w (.slice p1 (zlen x) c1) x.natAbs) (r2:RN w (.slice p2 (zlen y) c2) y.natAbs) :
 Calls Tryz.prog 106 #[.agg #[.bool (zneg x),.slice p1 (zlen x) c1],.agg #[.bool (zneg y),.slice p2 (zlen y) c2]] w fun e w'=>∃ p c p' c',e=.returned (.tuple #[.agg #[.bool (zneg q),.slice p (zlen q) c],.agg #[.bool (zneg r),.slice p' (zlen r) c']])∧RN w' (.slice p (zlen q) c) q.natAbs∧RN w' (.slice p' (zlen r) c') r.natAbs∧Below w.heap.size w w':=by
 have hdl:nlen (x.natAbs / y.natAbs)≤50000:=Nat.le_trans (nlen_mono (Nat.div_le_self _ _)) hx
 have hml:nlen (x.natAbs % y.natAbs)≤50000:=Nat.le_trans (nlen_mono (Nat.mod_le _ _)) hx
 have hC:=fun W (h:Below w.heap.size w W)=>cOver (.slice p1 (zlen x) c1) (.slice p2 (zlen y) c2) x.natAbs y.natAbs (by omega) hx W (r1.below h) (r2.below h)
 cases hs:zneg x with
 | false =>
   obtain ⟨e1,e2⟩:=over_pos x y hy hs
   exact zOver_f p1 _ c1 p2 _ c2 (zneg y) _ _ q r (by omega) (by omega) (hq ▸ e1) (hr ▸ e2) w hC
 | true =>
   by_cases h0:x.natAbs % y.natAbs=0
   · obtain ⟨e1,e2⟩:=over_exact x y hy hs h0
     rw [h0] at hC
     exact zOver_t0 p1 _ c1 p2 _ c2 (zneg y) _ q r (by omega) (hq ▸ e1) (hr ▸ e2) w hC
   · obtain ⟨e1,e2⟩:=over_neg x y hy hs h0
     have hlt:=Nat.mod_lt x.natAbs (y:=y.natAbs) (by omega)
     exact zOver_t p1 _ c1 p2 _ c2 (zneg y) _ _ y.natAbs q r (by omega) (nlen_pos h0) (by unfold zlen at hly;omega) (by omega) (hq ▸ e1) (hr ▸ e2) w r2 hC
theorem sTo (z:Int) (s:ByteArray) (hs:Sz z=s) (hf:zlen z≤10000) (hs2:(Sn z.natAbs).size≤100000) (p:Option Addr) (c:Nat) (w:World) (h:RN w (.slice p (zlen z) c) z.natAbs) :
 CR 56 #[.agg #[.bool (zneg z),.slice p (zlen z) c]] w (.string s):=by subst hs;exact zTo _ z hf hs2 w (Rz.mk h)
theorem sSignum (z s:Int) (hs:z.sign=s) (p:Option Addr) (c:Nat) (w:World) (h:RN w (.slice p (zlen z) c) z.natAbs) :
 CR 38 #[.agg #[.bool (zneg z),.slice p (zlen z) c]] w (.int .i64 s):=by subst hs;exact zSignum _ z w (Rz.mk h)
theorem sTimes (x y z:Int) (hz:x * y=z) (hx:zlen x≤50000) (hy:zlen y≤50000) (p1:Option Addr) (c1:Nat) (p2:Option Addr) (c2:Nat) (w:World) (r1:RN w (.slice p1 (zlen x) c1) x.natAbs) (r2:RN w (.slice p2 (zlen y) c2) y.natAbs) :
 CZ 101 #[.agg #[.bool (zneg x),.slice p1 (zlen x) c1],.agg #[.bool (zneg y),.slice p2 (zlen y) c2]] w z:=by subst hz;exact rz_sh (zTimes _ _ x y hx hy w (Rz.mk r1) (Rz.mk r2))
theorem sPlus (x y z:Int) (hz:x+y=z) (hx:zlen x≤50000) (hy:zlen y≤50000) (p1:Option Addr) (c1:Nat) (p2:Option Addr) (c2:Nat) (w:World) (r1:RN w (.slice p1 (zlen x) c1) x.natAbs) (r2:RN w (.slice p2 (zlen y) c2) y.natAbs) :
 CZ 100 #[.agg #[.bool (zneg x),.slice p1 (zlen x) c1],.agg #[.bool (zneg y),.slice p2 (zlen y) c2]] w z:=by subst hz;exact rz_sh (zPlus _ _ x y hx hy w (Rz.mk r1) (Rz.mk r2))
end Go.Proofs.YtmigpoiajkihhaaGreatDoor
/- garboardref02: Small; Bezout of a number and 0: walks. -/
open Go.Lib (hid)
namespace Go.Proofs.YtmigpoiajkihhaaGreatDoor
set_option maxRecDepth 100000
set_option maxHeartbeats 20000000
open Go.RowKit Go.Gb
theorem sSmall (k:Int) (n:Nat) (hk:(n:Int)=k) (h0:0≤k) (h1:k≤1000000) (w:World) :
 CZ 112 #[.int .i64 k] w k:=by
 have hl:nlen n≤1000000:=Nat.le_trans (nlen_mono (show n≤1000000 by omega)) (by decide +kernel)
 have C1:=hid (fun W=>cSmallL k n hk (by omega) W)
 have C2:=hid (fun v W h=>cMake false v n k (by rw [if_neg (by simp)];exact hk.symm) hl W h)
 have d0:decide (k<0)=false:=decide_eq_false (by omega)
 have e0:¬ k<0:=by omega
 clear hl hk
 go_enter Tryz.func112,Tryz.ntmps112
 go_upto_region 1 with fail
 refine wp_boxes w [(#[.bool false,.slice none 0 0],50)] rfl ?_
 rintro W0 ⟨k1,hb⟩
 have HB0:=hid (show Below w.heap.size w W0 from hb)
 have K1:=hid k1
 clear k1 hb
 go_wp2_with fail
 with_reducible refine (C1.out _).mono ?_
 rintro e W1 ⟨p_1,c_1,rfl,r1_0,hb⟩
 have K1:=hid (K1.out.below hb)
 have HB1:=hid (HB0.out.trans (hb.mono HB0.out.size))
 have RN1:=hid r1_0
 clear hb r1_0
 go_wp2_with fail
 with_reducible refine (C2.out _ _ RN1.out).mono ?_
 rintro e W2 ⟨p_2,c_2,rfl,r2_0,hb⟩
 have K1:=hid (K1.out.below hb)
 have HB2:=hid (HB1.out.trans (hb.mono HB1.out.size))
 have RK:=hid r2_0
 clear hb r2_0
 have dK10:=K1.out.cell (i:=0) rfl
 have dK11:=K1.out.cell (i:=1) rfl
 have fK10:=K1.out.frozen (i:=0)
 have fK11:=K1.out.frozen (i:=1)
 go_wp2
 exact bodyPost_ret (v:=.agg #[.bool (zneg k),.slice p_2 (zlen k) c_2]) (by simp [results,Tryz.results112,go_sem,dK10,dK11]) rfl ⟨_,_,rfl,(store_rn [.bool (zneg k),.slice p_2 (zlen k) c_2] RK.out K1.out (by simp [noInt]) (by simp [plainV])),(store_below (l:=[.bool (zneg k),.slice p_2 (zlen k) c_2]) (i:=0) (by omega) HB2.out)⟩
end Go.Proofs.YtmigpoiajkihhaaGreatDoor
/- garboardref03: fractions by what the walk leaves alone; lowest, Int, Neg, Inv, Sign, Mul, Add: walks. -/
open Go.Lib (hid)
namespace Go.Proofs.YtmigpoiajkihhaaGreatDoor
set_option maxRecDepth 100000
set_option maxHeartbeats 20000000
open Go.RowKit Go.Gb
theorem cOverE (v1 v2:Value) (a b q r:Nat) (hq:a / b=q) (hr:a % b=r) (hb:b≠0) (hl:nlen a≤50000) (w:World) (h1:RN w v1 a) (h2:RN w v2 b) :
 Calls Tryz.prog 82 #[v1,v2] w fun e w'=>∃ p c p' c',e=.returned (.tuple #[.slice p (nlen q) c,.slice p' (nlen r) c'])∧RN w' (.slice p (nlen q) c) q∧RN w' (.slice p' (nlen r) c') r∧Below w.heap.size w w':=by
 subst hq hr;exact cOver v1 v2 a b hb hl w h1 h2
theorem rn_cell {w:World} {p:Option Addr} {n c g:Nat} (h:RN w (.slice p n c) g) (hg:(digs g).length=1):∃ b o,p=some ⟨b,o,none⟩∧n=1∧w.cell? ⟨b,o,none⟩=some (.int .u32 (g:Int)):=by
 rcases h with ⟨e,h⟩|⟨b,o,c',e,h2,h3,h4,h5⟩
 · rw [h] at hg;cases hg
 · injection e with e1 e2 e3
   refine ⟨b,o,e1,by omega,?_⟩
   have h6:=h5 0 (by omega)
   have hv:=wval_digs g
   have hd:digs g=[(digs g).getD 0 0]:=by
    match hk:digs g,hg with
    | [x],_=>rfl
   rw [hd] at hv
   have e0:(digs g).getD 0 0=g:=by simpa [wval] using hv
   rw [e0] at h6
   exact h6
theorem lowest_one (z:Int) (d:Nat) (hz:zlen z≤50000) (hd:nlen d≤50000) (p1:Option Addr) (c1:Nat) (s1:Option Addr) (d1:Nat) (hg:Nat.gcd z.natAbs d=1) (w:World) (r1:RN w (.slice p1 (zlen z) c1) z.natAbs) (t1:RN w (.slice s1 (nlen d) d1) d) :
 Calls Tryz.prog 40 #[.agg #[.bool (zneg z),.slice p1 (zlen z) c1],.slice s1 (nlen d) d1] w fun e w'=>∃ p c s e1,e=.returned (.agg #[.bool (zneg z),.slice p (zlen z) c,.slice s (nlen d) e1])∧RN w' (.slice p (zlen z) c) z.natAbs∧RN w' (.slice s (nlen d) e1) d∧Below w.heap.size w w':=by
 have C1:=hid (show ∀ v1 v2 W,RN W v1 z.natAbs→RN W v2 d→Calls Tryz.prog 81 #[v1,v2] W fun e w'=>∃ b o c,e=.returned (.slice (some ⟨b,o,none⟩) 1 c)∧w'.cell? ⟨b,o,none⟩=some (.int .u32 1)∧Below W.heap.size W w' from fun v1 v2 W h1 h2=>by
  refine (cCommon v1 v2 z.natAbs d 1 hg hz hd W h1 h2).mono ?_
  rintro e w' ⟨p,c,rfl,hr,hb⟩
  obtain ⟨b,o,rfl,_,h⟩:=rn_cell hr nlen_one
  rw [nlen_one]
  exact ⟨b,o,c,rfl,h,hb⟩)
 clear hg hz hd
 have R1:=hid r1
 have T1:=hid t1
 clear r1 t1
 go_enter Tryz.func40,Tryz.ntmps40
 go_upto_region 1 with fail
 refine wp_boxes w [(#[.bool (zneg z),.slice p1 (zlen z) c1],50),(#[.bool false,.slice none 0 0,.slice none 0 0],55)] rfl ?_
 rintro W0 ⟨k1,k2,hb⟩
 have HB0:=hid (show Below w.heap.size w W0 from hb)
 have R1:=hid (R1.out.below HB0.out)
 have T1:=hid (T1.out.below HB0.out)
 have K1:=hid k1
 have K2:=hid k2
 clear k1 k2 hb
 have dK11:=K1.out.cell (i:=1) rfl
 go_wp2_with fail
 with_reducible refine (C1.out _ _ _ R1.out T1.out).mono ?_
 rintro e W1 ⟨b_1,o_1,c_1,rfl,r1_0,hb⟩
 clear dK11
 have K1:=hid (K1.out.below hb)
 have K2:=hid (K2.out.below hb)
 have R1:=hid (R1.out.below hb)
 have T1:=hid (T1.out.below hb)
 have HB1:=hid (HB0.out.trans (hb.mono HB0.out.size))
 have XC:=hid r1_0
 clear hb r1_0
 have dxc:=XC.out
 have dK10:=K1.out.cell (i:=0) rfl
 have dK11:=K1.out.cell (i:=1) rfl
 have dK20:=K2.out.cell (i:=0) rfl
 have dK21:=K2.out.cell (i:=1) rfl
 have dK22:=K2.out.cell (i:=2) rfl
 have fK20:=K2.out.frozen (i:=0)
 have fK21:=K2.out.frozen (i:=1)
 have fK22:=K2.out.frozen (i:=2)
 go_wp2
 exact bodyPost_ret (v:=.agg #[.bool (zneg z),.slice p1 (zlen z) c1,.slice s1 (nlen d) d1]) (by simp [results,Tryz.results40,go_sem,dK20,dK21,dK22]) rfl ⟨_,_,_,_,rfl,(store_rn [.bool (zneg z),.slice p1 (zlen z) c1,.slice s1 (nlen d) d1] R1.out K2.out (by simp [noInt]) (by simp [plainV])),(store_rn [.bool (zneg z),.slice p1 (zlen z) c1,.slice s1 (nlen d) d1] T1.out K2.out (by simp [noInt]) (by simp [plainV])),(store_below (l:=[.bool (zneg z),.slice p1 (zlen z) c1,.slice s1 (nlen d) d1]) (i:=0) (by omega) HB1.out)⟩
theorem lowest_word (z:Int) (d:Nat) (hz:zlen z≤50000) (hd:nlen d≤50000) (p1:Option Addr) (c1:Nat) (s1:Option Addr) (d1:Nat) (g a a1 b b1:Nat) (y:Int) (hg:Nat.gcd z.natAbs d=g) (g0:g≠0) (g1:g≠1) (gl:nlen g=1) (ha:z.natAbs / g=a) (ha1:z.natAbs % g=a1) (hb:d / g=b) (hb1:d % g=b1) (hy:y=if zneg z then -(a:Int) else (a:Int)) (w:World) (r1:RN w (.slice p1 (zlen z) c1) z.natAbs) (t1:RN w (.slice s1 (nlen d) d1) d) :
 Calls Tryz.prog 40 #[.agg #[.bool (zneg z),.slice p1 (zlen z) c1],.slice s1 (nlen d) d1] w fun e w'=>∃ p c s e1,e=.returned (.agg #[.bool (zneg y),.slice p (zlen y) c,.slice s (nlen b) e1])∧RN w' (.slice p (zlen y) c) y.natAbs∧RN w' (.slice s (nlen b) e1) b∧Below w.heap.size w w':=by
 have C1:=hid (show ∀ v1 v2 W,RN W v1 z.natAbs→RN W v2 d→Calls Tryz.prog 81 #[v1,v2] W fun e w'=>∃ b o c,e=.returned (.slice (some ⟨b,o,none⟩) 1 c)∧w'.cell? ⟨b,o,none⟩=some (.int .u32 (g:Int))∧RN w' (.slice (some ⟨b,o,none⟩) 1 c) g∧Below W.heap.size W w' from fun v1 v2 W h1 h2=>by
  refine (cCommon v1 v2 z.natAbs d g hg hz hd W h1 h2).mono ?_
  rintro e w' ⟨p,c,rfl,hr,hb⟩
  obtain ⟨b,o,rfl,_,h⟩:=rn_cell hr gl
  rw [gl] at hr ⊢
  exact ⟨b,o,c,rfl,h,hr,hb⟩)
 have C2:=hid (fun v1 v2 W h1 h2=>cOverE v1 v2 z.natAbs g a a1 ha ha1 g0 hz W h1 h2)
 have C3:=hid (fun v1 v2 W h1 h2=>cOverE v1 v2 d g b b1 hb hb1 g0 hd W h1 h2)
 have C4:=hid (fun v W h=>cMake (zneg z) v a y hy (by rw [← ha];exact Nat.le_trans (nlen_mono (Nat.div_le_self _ _)) (Nat.le_trans hz (by decide))) W h)
 have g1':((g:Int) == 1)=false:=by rw [beq_eq_false_iff_ne];omega
 have g2':¬ (g:Int)=1:=by omega
 have g3':¬ g=1:=g1
 clear gl g1
 clear hg hz hd g0 ha ha1 hb hb1 hy
 have R1:=hid r1
 have T1:=hid t1
 clear r1 t1
 go_enter Tryz.func40,Tryz.ntmps40
 go_upto_region 1 with fail
 refine wp_boxes w [(#[.bool (zneg z),.slice p1 (zlen z) c1],50),(#[.bool false,.slice none 0 0,.slice none 0 0],55)] rfl ?_
 rintro W0 ⟨k1,k2,hb⟩
 have HB0:=hid (show Below w.heap.size w W0 from hb)
 have R1:=hid (R1.out.below HB0.out)
 have T1:=hid (T1.out.below HB0.out)
 have K1:=hid k1
 have K2:=hid k2
 clear k1 k2 hb
 have dK11:=K1.out.cell (i:=1) rfl
 go_wp2_with fail
 with_reducible refine (C1.out _ _ _ R1.out T1.out).mono ?_
 rintro e W1 ⟨b_1,o_1,c_1,rfl,r1_0,r1_1,hb⟩
 clear dK11
 have K1:=hid (K1.out.below hb)
 have K2:=hid (K2.out.below hb)
 have R1:=hid (R1.out.below hb)
 have T1:=hid (T1.out.below hb)
 have HB1:=hid (HB0.out.trans (hb.mono HB0.out.size))
 have XC:=hid r1_0
 have RG:=hid r1_1
 clear hb r1_0 r1_1
 have dxc:=XC.out
 have dK11:=K1.out.cell (i:=1) rfl
 go_wp2_with fail
 with_reducible refine (C2.out _ _ _ R1.out RG.out).mono ?_
 rintro e W2 ⟨pa_2,ca_2,pb_2,cb_2,rfl,r2_0,r2_1,hb⟩
 clear dK11
 have K1:=hid (K1.out.below hb)
 have K2:=hid (K2.out.below hb)
 have T1:=hid (T1.out.below hb)
 have RG:=hid (RG.out.below hb)
 have HB2:=hid (HB1.out.trans (hb.mono HB1.out.size))
 have RA:=hid r2_0
 have RA1:=hid r2_1
 clear hb r2_0 r2_1
 go_wp2_with fail
 with_reducible refine (C3.out _ _ _ T1.out RG.out).mono ?_
 rintro e W3 ⟨pa_3,ca_3,pb_3,cb_3,rfl,r3_0,r3_1,hb⟩
 have K1:=hid (K1.out.below hb)
 have K2:=hid (K2.out.below hb)
 have RA:=hid (RA.out.below hb)
 have HB3:=hid (HB2.out.trans (hb.mono HB2.out.size))
 have RB:=hid r3_0
 have RB1:=hid r3_1
 clear hb r3_0 r3_1
 have dK10:=K1.out.cell (i:=0) rfl
 go_wp2_with fail
 with_reducible refine (C4.out _ _ RA.out).mono ?_
 rintro e W4 ⟨p_4,c_4,rfl,r4_0,hb⟩
 clear dK10
 have K2:=hid (K2.out.below hb)
 have RB:=hid (RB.out.below hb)
 have HB4:=hid (HB3.out.trans (hb.mono HB3.out.size))
 have RY:=hid r4_0
 clear hb r4_0
 have dK20:=K2.out.cell (i:=0) rfl
 have dK21:=K2.out.cell (i:=1) rfl
 have dK22:=K2.out.cell (i:=2) rfl
 have fK20:=K2.out.frozen (i:=0)
 have fK21:=K2.out.frozen (i:=1)
 have fK22:=K2.out.frozen (i:=2)
 go_wp2
 exact bodyPost_ret (v:=.agg #[.bool (zneg y),.slice p_4 (zlen y) c_4,.slice pa_3 (nlen b) ca_3]) (by simp [results,Tryz.results40,go_sem,dK20,dK21,dK22]) rfl ⟨_,_,_,_,rfl,(store_rn [.bool (zneg y),.slice p_4 (zlen y) c_4,.slice pa_3 (nlen b) ca_3] RY.out K2.out (by simp [noInt]) (by simp [plainV])),(store_rn [.bool (zneg y),.slice p_4 (zlen y) c_4,.slice pa_3 (nlen b) ca_3] RB.out K2.out (by simp [noInt]) (by simp [plainV])),(store_below (l:=[.bool (zneg y),.slice p_4 (zlen y) c_4,.slice pa_3 (nlen b) ca_3]) (i:=0) (by omega) HB4.out)⟩
theorem lowest_long (z:Int) (d:Nat) (hz:zlen z≤50000) (hd:nlen d≤50000) (p1:Option Addr) (c1:Nat) (s1:Option Addr) (d1:Nat) (g a a1 b b1:Nat) (y:Int) (hg:Nat.gcd z.natAbs d=g) (g0:g≠0) (gl:nlen g≠1) (ha:z.natAbs / g=a) (ha1:z.natAbs % g=a1) (hb:d / g=b) (hb1:d % g=b1) (hy:y=if zneg z then -(a:Int) else (a:Int)) (w:World) (r1:RN w (.slice p1 (zlen z) c1) z.natAbs) (t1:RN w (.slice s1 (nlen d) d1) d) :
 Calls Tryz.prog 40 #[.agg #[.bool (zneg z),.slice p1 (zlen z) c1],.slice s1 (nlen d) d1] w fun e w'=>∃ p c s e1,e=.returned (.agg #[.bool (zneg y),.slice p (zlen y) c,.slice s (nlen b) e1])∧RN w' (.slice p (zlen y) c) y.natAbs∧RN w' (.slice s (nlen b) e1) b∧Below w.heap.size w w':=by
 have C1:=hid (fun v1 v2 W h1 h2=>cCommon v1 v2 z.natAbs d g hg hz hd W h1 h2)
 have C2:=hid (fun v1 v2 W h1 h2=>cOverE v1 v2 z.natAbs g a a1 ha ha1 g0 hz W h1 h2)
 have C3:=hid (fun v1 v2 W h1 h2=>cOverE v1 v2 d g b b1 hb hb1 g0 hd W h1 h2)
 have C4:=hid (fun v W h=>cMake (zneg z) v a y hy (by rw [← ha];exact Nat.le_trans (nlen_mono (Nat.div_le_self _ _)) (Nat.le_trans hz (by decide))) W h)
 have g1':((nlen g:Int) == 1)=false:=by rw [beq_eq_false_iff_ne];omega
 have g2':¬ (nlen g:Int)=1:=by omega
 have g3':¬ nlen g=1:=gl
 clear gl
 clear hg hz hd g0 ha ha1 hb hb1 hy
 have R1:=hid r1
 have T1:=hid t1
 clear r1 t1
 go_enter Tryz.func40,Tryz.ntmps40
 go_upto_region 1 with fail
 refine wp_boxes w [(#[.bool (zneg z),.slice p1 (zlen z) c1],50),(#[.bool false,.slice none 0 0,.slice none 0 0],55)] rfl ?_
 rintro W0 ⟨k1,k2,hb⟩
 have HB0:=hid (show Below w.heap.size w W0 from hb)
 have R1:=hid (R1.out.below HB0.out)
 have T1:=hid (T1.out.below HB0.out)
 have K1:=hid k1
 have K2:=hid k2
 clear k1 k2 hb
 have dK11:=K1.out.cell (i:=1) rfl
 go_wp2_with fail
 with_reducible refine (C1.out _ _ _ R1.out T1.out).mono ?_
 rintro e W1 ⟨p_1,c_1,rfl,r1_0,hb⟩
 clear dK11
 have K1:=hid (K1.out.below hb)
 have K2:=hid (K2.out.below hb)
 have R1:=hid (R1.out.below hb)
 have T1:=hid (T1.out.below hb)
 have HB1:=hid (HB0.out.trans (hb.mono HB0.out.size))
 have RG:=hid r1_0
 clear hb r1_0
 have dK11:=K1.out.cell (i:=1) rfl
 go_wp2_with fail
 with_reducible refine (C2.out _ _ _ R1.out RG.out).mono ?_
 rintro e W2 ⟨pa_2,ca_2,pb_2,cb_2,rfl,r2_0,r2_1,hb⟩
 clear dK11
 have K1:=hid (K1.out.below hb)
 have K2:=hid (K2.out.below hb)
 have T1:=hid (T1.out.below hb)
 have RG:=hid (RG.out.below hb)
 have HB2:=hid (HB1.out.trans (hb.mono HB1.out.size))
 have RA:=hid r2_0
 have RA1:=hid r2_1
 clear hb r2_0 r2_1
 go_wp2_with fail
 with_reducible refine (C3.out _ _ _ T1.out RG.out).mono ?_
 rintro e W3 ⟨pa_3,ca_3,pb_3,cb_3,rfl,r3_0,r3_1,hb⟩
 have K1:=hid (K1.out.below hb)
 have K2:=hid (K2.out.below hb)
 have RA:=hid (RA.out.below hb)
 have HB3:=hid (HB2.out.trans (hb.mono HB2.out.size))
 have RB:=hid r3_0
 have RB1:=hid r3_1
 clear hb r3_0 r3_1
 have dK10:=K1.out.cell (i:=0) rfl
 go_wp2_with fail
 with_reducible refine (C4.out _ _ RA.out).mono ?_
 rintro e W4 ⟨p_4,c_4,rfl,r4_0,hb⟩
 clear dK10
 have K2:=hid (K2.out.below hb)
 have RB:=hid (RB.out.below hb)
 have HB4:=hid (HB3.out.trans (hb.mono HB3.out.size))
 have RY:=hid r4_0
 clear hb r4_0
 have dK20:=K2.out.cell (i:=0) rfl
 have dK21:=K2.out.cell (i:=1) rfl
 have dK22:=K2.out.cell (i:=2) rfl
 have fK20:=K2.out.frozen (i:=0)
 have fK21:=K2.out.frozen (i:=1)
 have fK22:=K2.out.frozen (i:=2)
 go_wp2
 exact bodyPost_ret (v:=.agg #[.bool (zneg y),.slice p_4 (zlen y) c_4,.slice pa_3 (nlen b) ca_3]) (by simp [results,Tryz.results40,go_sem,dK20,dK21,dK22]) rfl ⟨_,_,_,_,rfl,(store_rn [.bool (zneg y),.slice p_4 (zlen y) c_4,.slice pa_3 (nlen b) ca_3] RY.out K2.out (by simp [noInt]) (by simp [plainV])),(store_rn [.bool (zneg y),.slice p_4 (zlen y) c_4,.slice pa_3 (nlen b) ca_3] RB.out K2.out (by simp [noInt]) (by simp [plainV])),(store_below (l:=[.bool (zneg y),.slice p_4 (zlen y) c_4,.slice pa_3 (nlen b) ca_3]) (i:=0) (by omega) HB4.out)⟩
end Go.Proofs.YtmigpoiajkihhaaGreatDoor
/- garboardref03.split: walks. -/
namespace Go.Proofs.YtmigpoiajkihhaaGreatDoor
set_option maxRecDepth 100000
set_option maxHeartbeats 20000000
open Go.RowKit Go.Gb
theorem below_drewN (w:World) (n:Nat):Below w.heap.size w (w.drewN n):=⟨rfl,rfl,rfl,Nat.le_refl _,fun _ _=>rfl⟩
theorem not47 {s:ByteArray} {k:Nat} (h:k<s.size) (hn:s[k]≠47):((s[k].toNat:Int) == 47)=false:=by
 rw [beq_eq_false_iff_ne]
 intro e
 apply hn
 apply UInt8.toNat_inj.1
 have:s[k].toNat=47:=by omega
 rw [this];rfl
theorem split_no (s:ByteArray) (hn:∀ k (h:k<s.size),s[k]≠47) (hs:s.size≤maxLen) (w:World) :
 Calls Tryz.prog 43 #[.string s] w fun e w'=>e=.returned (.tuple #[.string s,.string ⟨#[49]⟩,.bool false])∧w=w':=by
 unfold maxLen at hs
 have HN:=Lib.hid hn
 clear hn
 go_enter Tryz.func43,Tryz.ntmps43
 go_wp2
 go_loop [5] (fun i=>∃ k:Nat,k≤s.size∧i=.int .i64 k) (fun i=>s.size - (intOf i).toNat)
 case atStart=>exact ⟨0,Nat.zero_le _,rfl⟩
 case round =>
  obtain ⟨k,hk,rfl⟩:=hrel
  by_cases hlt:k<s.size
  · have e1:=not47 hlt (HN.out k hlt)
    go_wp2
    go_round
    case rel=>exact ⟨k+1,by omega,by go_num⟩
    case measure=>simp [intOf];omega
  · go_wp2
    go_ret3
    exact ⟨rfl,rfl⟩
theorem split_yes (s a b:ByteArray) (hsz:a.size<s.size) (hn:∀ k (_:k<a.size) (h2:k<s.size),s[k]≠47) (h47:s[a.size]=47) (ha:s.extract 0 a.size=a) (hb:s.extract (a.size+1) s.size=b) (hs:s.size≤maxLen) (w:World) :
 CR 43 #[.string s] w (.tuple #[.string a,.string b,.bool true]):=by
 unfold maxLen at hs
 have HN:=Lib.hid hn
 obtain ⟨n,hna⟩:∃ n,n=a.size:=⟨_,rfl⟩
 have h47':∃ h:n<s.size,s[n]=47:=⟨by omega,by subst hna;exact h47⟩
 rw [← hna] at ha hb hsz
 have HA:=Lib.hid ha
 have HB:=Lib.hid hb
 have HNA:=Lib.hid hna
 clear hn ha hb h47 hna
 go_enter Tryz.func43,Tryz.ntmps43
 go_wp2
 go_loop [5] (fun i=>∃ k:Nat,k≤n∧i=.int .i64 k) (fun i=>n - (intOf i).toNat)
 case atStart=>exact ⟨0,Nat.zero_le _,rfl⟩
 case round =>
  obtain ⟨k,hk,rfl⟩:=hrel
  have hks:k<s.size:=by omega
  by_cases hlt:k<n
  · have e1:=not47 hks (HN.out k (by have:=HNA.out;omega) hks)
    clear h47'
    go_wp2
    go_round
    case rel=>exact ⟨k+1,by omega,by go_num⟩
    case measure=>simp [intOf];omega
  · obtain rfl:n=k:=by omega
    obtain ⟨h,h47'⟩:=h47'
    have e1:((s[n].toNat:Int) == 47)=true:=by rw [h47'];rfl
    clear h47' hk hlt
    have i1:IntKind.i64.wrap ((n:Int)+1)=(n:Int)+1:=IntWalk.i64_in _ (by omega)
    have i2:(0:Int)≤(n:Int)+1:=by omega
    have i3:(n:Int)+1≤(s.size:Int):=by omega
    have i4:((n:Int)+1).toNat=n+1:=by omega
    have i5:(n:Int)≤(s.size:Int):=by omega
    go_wp2_with fail
    go_quiet (fail)
    go_wp2
    go_ret3
    exact ⟨by rw [HA.out,HB.out];rfl,below_drewN _ _⟩
end Go.Proofs.YtmigpoiajkihhaaGreatDoor
