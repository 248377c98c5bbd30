/- Texts of this proof, one behind the other. -/
import Derived.Test.YtggoeabhbkbadaaGreatDoorMz34q
namespace Go.Gb
open Lib
theorem dec_prefix (n k:Nat)(h:0<n / 10^k):(decDigits n).take ((decDigits n).length-k)=decDigits (n / 10^k):=by
 have e:=dec_snoc_digits (n / 10^k) h k (n%10^k) (Nat.mod_lt _ (Nat.pow_pos (by decide)))
 rw[Nat.mul_comm,Nat.div_add_mod]at e
 rw[e]
 simp
theorem dec_zeros (v k:Nat)(h:0<v):decDigits (v*10^k)=decDigits v++List.replicate k 48:=by
 have e:=dec_snoc_digits v h k 0 (Nat.pow_pos (by decide))
 rw[Nat.add_zero]at e
 rw[e]
 congr 1
 apply List.ext_getElem
 · simp
 · intro i h1 h2
   simp
theorem guess_first {n k s:Nat}(hs:n / 10^(k+k)<(s+1)*(s+1)):n<((s+1)*10^k+1)*((s+1)*10^k+1):=by
 have h1:n<(s+1)*(s+1)*(10^k*10^k):=by
  rw[← Nat.pow_add]
  exact(Nat.div_lt_iff_lt_mul (Nat.pow_pos (by decide))).1 hs
 have h2:(s+1)*(s+1)*(10^k*10^k)=(s+1)*10^k*((s+1)*10^k):=by
  rw[Nat.mul_mul_mul_comm]
 rw[h2]at h1
 exact Nat.lt_of_lt_of_le h1 (Nat.mul_le_mul (Nat.le_succ _) (Nat.le_succ _))
end Go.Gb
namespace Go.Gb
theorem rmul_le {a b c d:Rat}(h1:0≤a)(h2:a≤b)(h3:0≤c)(h4:c≤d):a*c≤b*d:=by
 have e1:=Rat.mul_nonneg (show 0≤b-a by grind) h3
 have e2:=Rat.mul_nonneg (show 0≤b by grind) (show 0≤d-c by grind)
 grind
theorem rsq_le {a b:Rat}(h1:0≤a)(h2:a≤b):a*a≤b*b:=rmul_le h1 h2 h1 h2
theorem rsq_lt {a b:Rat}(h1:0≤a)(h2:a<b):a*a<b*b:=by
 have e:=Rat.mul_pos (show 0<b-a by grind) (show 0<b+a by grind)
 grind
theorem rsq_le_inv {a b:Rat}(hb:0≤b)(h:a*a≤b*b):a≤b:=by
 rcases Rat.le_total (a:=a) (b:=b) with h1|h1
 · exact h1
 · rcases Rat.le_iff_lt_or_eq.1 h1 with h2|h2
   · have:=rsq_lt hb h2;grind
   · grind
theorem rsq_lt_inv {a b:Rat}(hb:0≤b)(h:a*a<b*b):a<b:=by
 rcases Rat.le_total (a:=b) (b:=a) with h1|h1
 · have:=rsq_le hb h1;grind
 · rcases Rat.le_iff_lt_or_eq.1 h1 with h2|h2
   · exact h2
   · subst h2;grind
def rk (s:Rat):Nat:=isq s.floor.toNat
theorem rk_spec {s:Rat}(hs:0≤s):((rk s:Nat):Rat)*((rk s:Nat):Rat)≤s∧s<(((rk s:Nat):Rat)+1)*(((rk s:Nat):Rat)+1):=by
 have h0:0≤s.floor:=Rat.le_floor_iff.2 (by simpa using hs)
 obtain⟨f,hf⟩:∃ f:Nat,s.floor=(f:Int):=⟨s.floor.toNat,by omega⟩
 have⟨g1,g2⟩:=isq_spec f
 have e:rk s=isq f:=by unfold rk;rw[hf];rfl
 rw[e]
 have l1:((f:Int):Rat)≤s:=by rw[← hf];exact Rat.floor_le _
 have l2:s<((f:Int):Rat)+1:=by
  have:=Rat.lt_floor_add_one s
  rw[hf]at this
  simpa using this
 have c1:((isq f*isq f:Nat):Rat)≤((f:Nat):Rat):=Rat.natCast_le_natCast.2 g1
 have c2:(((f+1:Nat)):Rat)≤(((isq f+1)*(isq f+1):Nat):Rat):=Rat.natCast_le_natCast.2 g2
 have fc:((f:Int):Rat)=((f:Nat):Rat):=rfl
 rw[Rat.natCast_mul]at c1 c2
 rw[Rat.natCast_add,Rat.natCast_add]at c2
 rw[fc]at l1 l2
 constructor
 · grind
 · have:((1:Nat):Rat)=1:=rfl
   grind
theorem rnat_nonneg (k:Nat):(0:Rat)≤((k:Nat):Rat):=by exact_mod_cast (Rat.natCast_le_natCast.2 (Nat.zero_le k):((0:Nat):Rat)≤((k:Nat):Rat))
theorem rnat_le {a b:Nat}:((a:Nat):Rat)≤((b:Nat):Rat)↔a≤b:=Rat.natCast_le_natCast
theorem rnat_lt {a b:Nat}:((a:Nat):Rat)<((b:Nat):Rat)↔a<b:=Rat.natCast_lt_natCast
theorem rnat_pos {k:Nat}(h:1≤k):(0:Rat)<((k:Nat):Rat):=by
 have:=(rnat_lt (a:=0) (b:=k)).2 h
 simpa using this
theorem div_le_div {a b c:Rat}(hc:0<c)(h:a≤b):a / c≤b / c:=by
 rw[Rat.div_def,Rat.div_def]
 have:=Rat.mul_nonneg (show 0≤b-a by grind) (show 0≤c⁻¹ from Rat.le_of_lt (Rat.inv_pos.2 hc))
 grind
theorem div_div_le {a b c d:Rat}(hc:0<c)(hd:0<d)(h:a*d≤b*c):a / c≤b / d:=by
 have e1:a / c=a*d / (c*d):=by grind
 have e2:b / d=b*c / (c*d):=by grind
 rw[e1,e2]
 exact div_le_div (Rat.mul_pos hc hd) h
def eK (x:Rat) (n:Nat):Nat:=rk (x*((n:Rat)*(n:Rat)))
def eX (x:Rat) (n:Nat):Bool:=decide ((eK x n:Rat)*(eK x n:Rat)=x*((n:Rat)*(n:Rat)))
def eH (x:Rat) (n:Nat):Nat:=if eX x n then eK x n else eK x n+1
theorem eK_spec {x:Rat}{n:Nat}(hx:0≤x):(eK x n:Rat)*(eK x n:Rat)≤x*((n:Rat)*(n:Rat))∧x*((n:Rat)*(n:Rat))<((eK x n:Rat)+1)*((eK x n:Rat)+1) :=
 rk_spec (Rat.mul_nonneg hx (Rat.mul_nonneg (rnat_nonneg n) (rnat_nonneg n)))
theorem eH_spec {x:Rat}{n:Nat}(hx:0≤x):x*((n:Rat)*(n:Rat))≤(eH x n:Rat)*(eH x n:Rat)∧(eX x n=false→(eH x n:Rat)=(eK x n:Rat)+1∧(eK x n:Rat)*(eK x n:Rat)<x*((n:Rat)*(n:Rat))∧x*((n:Rat)*(n:Rat))<(eH x n:Rat)*(eH x n:Rat))∧(eX x n=true→eH x n=eK x n∧(eK x n:Rat)*(eK x n:Rat)=x*((n:Rat)*(n:Rat))):=by
 have⟨h1,h2⟩:=eK_spec (n:=n) hx
 cases h:eX x n with
 | true =>
   have e:eH x n=eK x n:=by unfold eH;rw[h];rfl
   have e2:=of_decide_eq_true h
   rw[e]
   exact⟨by grind,(fun h=>by cases h),fun _=>⟨rfl,e2⟩⟩
 | false =>
   have e:eH x n=eK x n+1:=by unfold eH;rw[h];rfl
   have e2:=of_decide_eq_false h
   have e3:((eH x n:Nat):Rat)=(eK x n:Rat)+1:=by rw[e,Rat.natCast_add];rfl
   rw[e3]
   exact⟨by grind,(fun _=>⟨rfl,by grind,h2⟩),fun h=>by cases h⟩
theorem ends_sq {x:Rat}{n:Nat}(hx:0≤x)(hn:1≤n):((eK x n:Rat) / (n:Rat))*((eK x n:Rat) / (n:Rat))≤x∧x≤((eH x n:Rat) / (n:Rat))*((eH x n:Rat) / (n:Rat)):=by
 have hp:=rnat_pos hn
 have hpp:=Rat.mul_pos hp hp
 have⟨h1,_⟩:=eK_spec (n:=n) hx
 have⟨h2,_⟩:=eH_spec (n:=n) hx
 have e:∀ a:Rat,(a / (n:Rat))*(a / (n:Rat))=a*a / ((n:Rat)*(n:Rat)):=by intro a;grind
 have ex:x=x*((n:Rat)*(n:Rat)) / ((n:Rat)*(n:Rat)):=by grind
 rw[e,e]
 constructor
 · conv=>rhs;rw[ex]
   exact div_le_div hpp h1
 · conv=>lhs;rw[ex]
   exact div_le_div hpp h2
theorem nat_of_sq {a b:Nat}(h:(a:Rat)*(a:Rat)≤(b:Rat)*(b:Rat)):a≤b:=rnat_le.1 (rsq_le_inv (rnat_nonneg b) h)
theorem nat_of_sq_lt {a b:Nat}(h:(a:Rat)*(a:Rat)<(b:Rat)*(b:Rat)):a<b:=rnat_lt.1 (rsq_lt_inv (rnat_nonneg b) h)
theorem eK_ge {x:Rat}{n m:Nat}(hx:0≤x)(h:(m:Rat)*(m:Rat)≤x*((n:Rat)*(n:Rat))):m≤eK x n:=by
 have⟨_,h2⟩:=eK_spec (n:=n) hx
 have e:((eK x n+1:Nat):Rat)=(eK x n:Rat)+1:=by rw[Rat.natCast_add];rfl
 rw[← e]at h2
 have:=nat_of_sq_lt (a:=m) (b:=eK x n+1) (by grind)
 omega
theorem eK_lt {x:Rat}{n m:Nat}(hx:0≤x)(h:x*((n:Rat)*(n:Rat))<(m:Rat)*(m:Rat)):eK x n<m:=by
 have⟨h1,_⟩:=eK_spec (n:=n) hx
 exact nat_of_sq_lt (by grind)
theorem finer {x:Rat}{d m:Nat}(hx:0≤x)(hd:1≤d)(hm:1≤m):(eK x d:Rat) / (d:Rat)≤(eK x (d*m):Rat) / ((d*m:Nat):Rat)∧(eH x (d*m):Rat) / ((d*m:Nat):Rat)≤(eH x d:Rat) / (d:Rat):=by
 have hp:=rnat_pos hd
 have hq:=rnat_pos hm
 have hpq:=rnat_pos (show 1≤d*m from Nat.mul_pos hd hm)
 have ec:((d*m:Nat):Rat)=(d:Rat)*(m:Rat):=Rat.natCast_mul _ _
 have⟨a1,a2⟩:=eK_spec (n:=d) hx
 have⟨b1,b2,b3⟩:=eH_spec (n:=d) hx
 have⟨c1,c2,c3⟩:=eH_spec (n:=d*m) hx
 have hmm:(0:Rat)≤(m:Rat)*(m:Rat):=Rat.mul_nonneg (rnat_nonneg m) (rnat_nonneg m)
 have k1:eK x d*m≤eK x (d*m):=by
  apply eK_ge hx
  rw[Rat.natCast_mul,ec]
  have:=Rat.mul_nonneg (show 0≤x*((d:Rat)*(d:Rat))-(eK x d:Rat)*(eK x d:Rat) by grind) hmm
  grind
 have k2:eH x (d*m)≤eH x d*m:=by
  cases hX:eX x d with
  | true =>
    have⟨e1,e2⟩:=b3 hX
    have e3:((eK x d*m:Nat):Rat)*((eK x d*m:Nat):Rat)=x*(((d*m:Nat):Rat)*((d*m:Nat):Rat)):=by
        rw[Rat.natCast_mul,ec];grind
    have e4:eK x (d*m)≤eK x d*m:=nat_of_sq (by rw[e3];exact(eK_spec hx).1)
    have e5:eK x (d*m)=eK x d*m:=by omega
    have e6:eX x (d*m)=true:=by
        unfold eX
        rw[decide_eq_true_iff,e5]
        exact e3
    have⟨e7,_⟩:=c3 e6
    rw[e7,e5,e1]
    exact Nat.le_refl _
  | false =>
    have⟨e1,_,e3⟩:=b2 hX
    have hlt:x*(((d*m:Nat):Rat)*((d*m:Nat):Rat))<((eH x d*m:Nat):Rat)*((eH x d*m:Nat):Rat):=by
        rw[ec,Rat.natCast_mul]
        have:=Rat.mul_pos (show 0<(eH x d:Rat)*(eH x d:Rat)-x*((d:Rat)*(d:Rat)) by grind) (Rat.mul_pos hq hq)
        grind
    have hK:=eK_lt hx hlt
    unfold eH at *
    split<;>omega
 have k1':=rnat_le.2 k1
 have k2':=rnat_le.2 k2
 rw[Rat.natCast_mul]at k1' k2'
 constructor
 · apply div_div_le hp hpq
   rw[ec]
   have:=Rat.mul_nonneg (show 0≤(eK x (d*m):Rat)-(eK x d:Rat)*(m:Rat) by grind) (Rat.le_of_lt hp)
   grind
 · apply div_div_le hpq hp
   rw[ec]
   have:=Rat.mul_nonneg (show 0≤(eH x d:Rat)*(m:Rat)-(eH x (d*m):Rat) by grind) (Rat.le_of_lt hp)
   grind
theorem greater {x y:Rat}{d:Nat}(hx:0≤x)(hxy:x≤y)(hd:1≤d):(eK x d:Rat) / (d:Rat)≤(eK y d:Rat) / (d:Rat)∧(eH x d:Rat) / (d:Rat)≤(eH y d:Rat) / (d:Rat):=by
 have hy:0≤y:=by grind
 have hp:=rnat_pos hd
 have hdd:=Rat.mul_nonneg (Rat.le_of_lt hp) (Rat.le_of_lt hp)
 have hS:x*((d:Rat)*(d:Rat))≤y*((d:Rat)*(d:Rat)):=by
  have:=Rat.mul_nonneg (show 0≤y-x by grind) hdd
  grind
 have⟨a1,a2⟩:=eK_spec (n:=d) hx
 have⟨c1,c2,c3⟩:=eH_spec (n:=d) hx
 have⟨b1,b2,b3⟩:=eH_spec (n:=d) hy
 have k1:eK x d≤eK y d:=eK_ge hy (by grind)
 have k2:eH x d≤eH y d:=by
  cases hX:eX x d with
  | true =>
    have⟨e1,_⟩:=c3 hX
    rw[e1]
    have:eK y d≤eH y d:=by unfold eH;split<;>omega
    omega
  | false =>
    have⟨_,e2,_⟩:=c2 hX
    have h1:eK x d<eH y d:=nat_of_sq_lt (by grind)
    have h2:eH x d=eK x d+1:=by unfold eH;rw[hX];rfl
    omega
 exact⟨div_le_div hp (rnat_le.2 k1),div_le_div hp (rnat_le.2 k2)⟩
end Go.Gb
set_option maxRecDepth 100000
set_option maxHeartbeats 20000000
open Go.Lib (hid)
namespace Go.Proofs.YtggoeabhbkbadaaGreatDoor
open Go.RowKit Go.Gb
theorem iorder_raw (a b:ByteArray)(c n:Int)(w:World)(h1:CR 11 #[.string a,.string b] w (.tuple #[.int .i64 c,.int .i64 n])) :
 CR 42 #[.string a,.string b] w (.int .i64 c):=by
 have C1:=hid h1
 clear h1
 go_enter Tryz.func42,Tryz.ntmps42
 go_wp2_with fail
 refine C1.out.mono ?_
 rintro e w1 ⟨rfl,hb⟩
 go_wp2
 go_ret
 exact⟨rfl,hb⟩
theorem ivalid_yes_raw (l h:ByteArray)(c:Int)(hc:c≤0)(w:World)(hl:La w)
 (h1:CL 11 #[.string l,.string h] (.tuple #[.int .i64 c,.int .i64 0])) :
 CR 15 #[.agg #[.string l,.string h]] w (.bool true):=by
 have C1:=hid h1
 obtain⟨w0,hw0⟩:∃ w0:World,w0=(w.alloc (.cells #[.string l,.string h] 27)):=⟨_,rfl⟩
 have hz0:w0.heap.size=w.heap.size+1:=by rw[hw0];simp
 have hB0:Below w.heap.size w w0:=by
  rw[hw0]
  repeat (first|exact Below.refl _ _|refine Below.setCell ?_ (by first|omega|(simp;omega)|simp) _|refine Below.alloc ?_ (by first|omega|(simp;omega)|simp) _|refine Below.drew ?_)
 have hS0:w0.cell? ⟨w.heap.size,0,none⟩=some (.string l)∧w0.cell? ⟨w.heap.size,1,none⟩=some (.string h):=by rw[hw0];exact⟨((q_new).trans rfl),((q_new).trans rfl)⟩
 have KS:=hid (show ∀ W:World,Below w0.heap.size w0 W→(W.cell? ⟨w.heap.size,0,none⟩=some (.string l)∧W.cell? ⟨w.heap.size,1,none⟩=some (.string h)) from fun W hB=>by
  obtain⟨c0,c1⟩:=hS0
  exact⟨(hB.cell (p:=⟨w.heap.size,0,none⟩) (by show w.heap.size<_;omega)).trans c0,(hB.cell (p:=⟨w.heap.size,1,none⟩) (by show w.heap.size<_;omega)).trans c1⟩)
 have KZ:=hid (show ∀ W:World,Below w0.heap.size w0 W→w.heap.size+1≤W.heap.size from fun W hB=>by have:=hB.size;omega)
 have KB:=hid (show ∀ W:World,Below w0.heap.size w0 W→Below w.heap.size w W from fun W hB=>hB0.trans (hB.mono (by omega)))
 have F0:=hid (Below.refl w0.heap.size w0)
 have HW0:=hid hw0
 clear hz0 hB0 hS0 hw0
 have HL:=hid (show ∀ W:World,Below w0.heap.size w0 W→La W from fun W hB=>hl.on (KB.out W hB))
 clear hl h1
 go_enter Tryz.func15,Tryz.ntmps15
 go_wp2_with fail
 rw[← HW0.out]
 obtain⟨d0,d1⟩:=KS.out _ F0.out
 go_wp2_with fail
 refine(C1.out _ (HL.out _ F0.out)).mono ?_
 rintro e w1 ⟨rfl,hb⟩
 have F1:=hid (fr_chain F0.out hb)
 clear hb d0 d1
 obtain⟨d0,d1⟩:=KS.out _ F1.out
 go_wp2
 go_ret
 exact⟨rfl,KB.out _ F1.out⟩
theorem ivalid_gt_raw (l h:ByteArray)(w:World)(hl:La w)
 (h1:CL 11 #[.string l,.string h] (.tuple #[.int .i64 1,.int .i64 0])) :
 CR 15 #[.agg #[.string l,.string h]] w (.bool false):=by
 have C1:=hid h1
 obtain⟨w0,hw0⟩:∃ w0:World,w0=(w.alloc (.cells #[.string l,.string h] 27)):=⟨_,rfl⟩
 have hz0:w0.heap.size=w.heap.size+1:=by rw[hw0];simp
 have hB0:Below w.heap.size w w0:=by
  rw[hw0]
  repeat (first|exact Below.refl _ _|refine Below.setCell ?_ (by first|omega|(simp;omega)|simp) _|refine Below.alloc ?_ (by first|omega|(simp;omega)|simp) _|refine Below.drew ?_)
 have hS0:w0.cell? ⟨w.heap.size,0,none⟩=some (.string l)∧w0.cell? ⟨w.heap.size,1,none⟩=some (.string h):=by rw[hw0];exact⟨((q_new).trans rfl),((q_new).trans rfl)⟩
 have KS:=hid (show ∀ W:World,Below w0.heap.size w0 W→(W.cell? ⟨w.heap.size,0,none⟩=some (.string l)∧W.cell? ⟨w.heap.size,1,none⟩=some (.string h)) from fun W hB=>by
  obtain⟨c0,c1⟩:=hS0
  exact⟨(hB.cell (p:=⟨w.heap.size,0,none⟩) (by show w.heap.size<_;omega)).trans c0,(hB.cell (p:=⟨w.heap.size,1,none⟩) (by show w.heap.size<_;omega)).trans c1⟩)
 have KZ:=hid (show ∀ W:World,Below w0.heap.size w0 W→w.heap.size+1≤W.heap.size from fun W hB=>by have:=hB.size;omega)
 have KB:=hid (show ∀ W:World,Below w0.heap.size w0 W→Below w.heap.size w W from fun W hB=>hB0.trans (hB.mono (by omega)))
 have F0:=hid (Below.refl w0.heap.size w0)
 have HW0:=hid hw0
 clear hz0 hB0 hS0 hw0
 have HL:=hid (show ∀ W:World,Below w0.heap.size w0 W→La W from fun W hB=>hl.on (KB.out W hB))
 clear hl h1
 go_enter Tryz.func15,Tryz.ntmps15
 go_wp2_with fail
 rw[← HW0.out]
 obtain⟨d0,d1⟩:=KS.out _ F0.out
 go_wp2_with fail
 refine(C1.out _ (HL.out _ F0.out)).mono ?_
 rintro e w1 ⟨rfl,hb⟩
 have F1:=hid (fr_chain F0.out hb)
 clear hb d0 d1
 obtain⟨d0,d1⟩:=KS.out _ F1.out
 go_wp2
 go_ret
 exact⟨rfl,KB.out _ F1.out⟩
theorem isign_sure_raw (l h:ByteArray)(c:Int)(w:World)(hl:La w)
 (h1:CL 15 #[.agg #[.string l,.string h]] (.bool true))
 (h2:CL 42 #[.string l,.string ⟨#[48]⟩] (.int .i64 c))
 (h3:CL 42 #[.string h,.string ⟨#[48]⟩] (.int .i64 c)) :
 CR 22 #[.agg #[.string l,.string h]] w (.tuple #[.int .i64 c,.bool true,.int .i64 0]):=by
 have C1:=hid h1
 have C2:=hid h2
 have C3:=hid h3
 obtain⟨w0,hw0⟩:∃ w0:World,w0=(w.alloc (.cells #[.string l,.string h] 27)):=⟨_,rfl⟩
 have hz0:w0.heap.size=w.heap.size+1:=by rw[hw0];simp
 have hB0:Below w.heap.size w w0:=by
  rw[hw0]
  repeat (first|exact Below.refl _ _|refine Below.setCell ?_ (by first|omega|(simp;omega)|simp) _|refine Below.alloc ?_ (by first|omega|(simp;omega)|simp) _|refine Below.drew ?_)
 have hS0:w0.cell? ⟨w.heap.size,0,none⟩=some (.string l)∧w0.cell? ⟨w.heap.size,1,none⟩=some (.string h):=by rw[hw0];exact⟨((q_new).trans rfl),((q_new).trans rfl)⟩
 have KS:=hid (show ∀ W:World,Below w0.heap.size w0 W→(W.cell? ⟨w.heap.size,0,none⟩=some (.string l)∧W.cell? ⟨w.heap.size,1,none⟩=some (.string h)) from fun W hB=>by
  obtain⟨c0,c1⟩:=hS0
  exact⟨(hB.cell (p:=⟨w.heap.size,0,none⟩) (by show w.heap.size<_;omega)).trans c0,(hB.cell (p:=⟨w.heap.size,1,none⟩) (by show w.heap.size<_;omega)).trans c1⟩)
 have KZ:=hid (show ∀ W:World,Below w0.heap.size w0 W→w.heap.size+1≤W.heap.size from fun W hB=>by have:=hB.size;omega)
 have KB:=hid (show ∀ W:World,Below w0.heap.size w0 W→Below w.heap.size w W from fun W hB=>hB0.trans (hB.mono (by omega)))
 have F0:=hid (Below.refl w0.heap.size w0)
 have HW0:=hid hw0
 clear hz0 hB0 hS0 hw0
 have HL:=hid (show ∀ W:World,Below w0.heap.size w0 W→La W from fun W hB=>hl.on (KB.out W hB))
 clear hl h1 h2 h3
 go_enter Tryz.func22,Tryz.ntmps22
 go_wp2_with fail
 rw[← HW0.out]
 obtain⟨d0,d1⟩:=KS.out _ F0.out
 go_wp2_with fail
 refine(C1.out _ (HL.out _ F0.out)).mono ?_
 rintro e w1 ⟨rfl,hb⟩
 have F1:=hid (fr_chain F0.out hb)
 clear hb d0 d1
 obtain⟨d0,d1⟩:=KS.out _ F1.out
 go_wp2_with fail
 go_region_held3 (fun w'=>w'.cell? ⟨w.heap.size,0,none⟩=some (.string l)∧w'.cell? ⟨w.heap.size,1,none⟩=some (.string h)) (first|(with_reducible exact KS.out _ F3.out)|(with_reducible exact KS.out _ F3.out.drew)|(with_reducible exact KS.out _ F2.out)|(with_reducible exact KS.out _ F2.out.drew)|(with_reducible exact KS.out _ F1.out)|(with_reducible exact KS.out _ F1.out.drew))
  (first
   | (go_at_call 42;(with_reducible refine(C2.out _ ?la1).mono ?_);(case la1=>first|exact HL.out _ F1.out|exact HL.out _ F1.out.drew);rintro e w2 ⟨rfl,hb⟩;have F2:=hid (show Below w0.heap.size w0 w2 by first|exact fr_chain F1.out hb|exact fr_chain F1.out.drew hb);clear hb)
   | (go_at_call 42;(with_reducible refine(C3.out _ ?la2).mono ?_);(case la2=>first|exact HL.out _ F2.out|exact HL.out _ F2.out.drew);rintro e w3 ⟨rfl,hb⟩;have F3:=hid (show Below w0.heap.size w0 w3 by first|exact fr_chain F2.out hb|exact fr_chain F2.out.drew hb);clear hb)
   | fail)
 all_goals
  go_wp2
  refine bodyPost_ret (v:=.tuple #[.int .i64 c,.bool true,.int .i64 0]) (by simp[results,Tryz.results22,go_sem]) rfl ⟨rfl,KB.out _ (by first|exact F3.out|exact F3.out.drew)⟩
theorem isign_not_raw (l h:ByteArray)(c d:Int)(hne:c≠d)(w:World)(hl:La w)
 (h1:CL 15 #[.agg #[.string l,.string h]] (.bool true))
 (h2:CL 42 #[.string l,.string ⟨#[48]⟩] (.int .i64 c))
 (h3:CL 42 #[.string h,.string ⟨#[48]⟩] (.int .i64 d)) :
 CR 22 #[.agg #[.string l,.string h]] w (.tuple #[.int .i64 0,.bool false,.int .i64 0]):=by
 have hcd:(c==d)=false:=by rw[beq_eq_false_iff_ne];exact hne
 clear hne
 have C1:=hid h1
 have C2:=hid h2
 have C3:=hid h3
 obtain⟨w0,hw0⟩:∃ w0:World,w0=(w.alloc (.cells #[.string l,.string h] 27)):=⟨_,rfl⟩
 have hz0:w0.heap.size=w.heap.size+1:=by rw[hw0];simp
 have hB0:Below w.heap.size w w0:=by
  rw[hw0]
  repeat (first|exact Below.refl _ _|refine Below.setCell ?_ (by first|omega|(simp;omega)|simp) _|refine Below.alloc ?_ (by first|omega|(simp;omega)|simp) _|refine Below.drew ?_)
 have hS0:w0.cell? ⟨w.heap.size,0,none⟩=some (.string l)∧w0.cell? ⟨w.heap.size,1,none⟩=some (.string h):=by rw[hw0];exact⟨((q_new).trans rfl),((q_new).trans rfl)⟩
 have KS:=hid (show ∀ W:World,Below w0.heap.size w0 W→(W.cell? ⟨w.heap.size,0,none⟩=some (.string l)∧W.cell? ⟨w.heap.size,1,none⟩=some (.string h)) from fun W hB=>by
  obtain⟨c0,c1⟩:=hS0
  exact⟨(hB.cell (p:=⟨w.heap.size,0,none⟩) (by show w.heap.size<_;omega)).trans c0,(hB.cell (p:=⟨w.heap.size,1,none⟩) (by show w.heap.size<_;omega)).trans c1⟩)
 have KZ:=hid (show ∀ W:World,Below w0.heap.size w0 W→w.heap.size+1≤W.heap.size from fun W hB=>by have:=hB.size;omega)
 have KB:=hid (show ∀ W:World,Below w0.heap.size w0 W→Below w.heap.size w W from fun W hB=>hB0.trans (hB.mono (by omega)))
 have F0:=hid (Below.refl w0.heap.size w0)
 have HW0:=hid hw0
 clear hz0 hB0 hS0 hw0
 have HL:=hid (show ∀ W:World,Below w0.heap.size w0 W→La W from fun W hB=>hl.on (KB.out W hB))
 clear hl h1 h2 h3
 go_enter Tryz.func22,Tryz.ntmps22
 go_wp2_with fail
 rw[← HW0.out]
 obtain⟨d0,d1⟩:=KS.out _ F0.out
 go_wp2_with fail
 refine(C1.out _ (HL.out _ F0.out)).mono ?_
 rintro e w1 ⟨rfl,hb⟩
 have F1:=hid (fr_chain F0.out hb)
 clear hb d0 d1
 obtain⟨d0,d1⟩:=KS.out _ F1.out
 go_wp2_with fail
 go_region_held3 (fun w'=>w'.cell? ⟨w.heap.size,0,none⟩=some (.string l)∧w'.cell? ⟨w.heap.size,1,none⟩=some (.string h)) (first|(with_reducible exact KS.out _ F3.out)|(with_reducible exact KS.out _ F3.out.drew)|(with_reducible exact KS.out _ F2.out)|(with_reducible exact KS.out _ F2.out.drew)|(with_reducible exact KS.out _ F1.out)|(with_reducible exact KS.out _ F1.out.drew))
  (first
   | (go_at_call 42;(with_reducible refine(C2.out _ ?la1).mono ?_);(case la1=>first|exact HL.out _ F1.out|exact HL.out _ F1.out.drew);rintro e w2 ⟨rfl,hb⟩;have F2:=hid (show Below w0.heap.size w0 w2 by first|exact fr_chain F1.out hb|exact fr_chain F1.out.drew hb);clear hb)
   | (go_at_call 42;(with_reducible refine(C3.out _ ?la2).mono ?_);(case la2=>first|exact HL.out _ F2.out|exact HL.out _ F2.out.drew);rintro e w3 ⟨rfl,hb⟩;have F3:=hid (show Below w0.heap.size w0 w3 by first|exact fr_chain F2.out hb|exact fr_chain F2.out.drew hb);clear hb)
   | fail)
 all_goals
  go_wp2
  refine bodyPost_ret (v:=.tuple #[.int .i64 0,.bool false,.int .i64 0]) (by simp[results,Tryz.results22,go_sem]) rfl ⟨rfl,KB.out _ (by first|exact F3.out|exact F3.out.drew)⟩
theorem iAdd_raw (l1 h1 l2 h2 r s:ByteArray)(w:World)(hl:La w)
 (g1:CL 15 #[.agg #[.string l1,.string h1]] (.bool true))
 (g2:CL 15 #[.agg #[.string l2,.string h2]] (.bool true))
 (g3:CL 45 #[.string l1,.string l2] (.tuple #[.string r,.int .i64 0]))
 (g4:CL 45 #[.string h1,.string h2] (.tuple #[.string s,.int .i64 0])) :
 CR 21 #[.agg #[.string l1,.string h1],.agg #[.string l2,.string h2]] w (.tuple #[.agg #[.string r,.string s],.int .i64 0]):=by
 have C1:=hid g1
 have C2:=hid g2
 have C3:=hid g3
 have C4:=hid g4
 obtain⟨w0,hw0⟩:∃ w0:World,w0=(((w.alloc (.cells #[.string l1,.string h1] 27)).alloc (.cells #[.string l2,.string h2] 27)).alloc (.cells #[.string ⟨#[]⟩,.string ⟨#[]⟩] 27)):=⟨_,rfl⟩
 have hz0:w0.heap.size=w.heap.size+3:=by rw[hw0];simp
 have hB0:Below w.heap.size w w0:=by
  rw[hw0]
  repeat (first|exact Below.refl _ _|refine Below.setCell ?_ (by first|omega|(simp;omega)|simp) _|refine Below.alloc ?_ (by first|omega|(simp;omega)|simp) _|refine Below.drew ?_)
 have hS0:w0.cell? ⟨w.heap.size,0,none⟩=some (.string l1)∧w0.cell? ⟨w.heap.size,1,none⟩=some (.string h1)∧w0.cell? ⟨w.heap.size+1,0,none⟩=some (.string l2)∧w0.cell? ⟨w.heap.size+1,1,none⟩=some (.string h2):=by rw[hw0];exact⟨((q_lt).trans ((q_lt).trans ((q_new).trans rfl))),((q_lt).trans ((q_lt).trans ((q_new).trans rfl))),((q_lt).trans ((q_new).trans rfl)),((q_lt).trans ((q_new).trans rfl))⟩
 have KS:=hid (show ∀ W:World,Below w0.heap.size w0 W→(W.cell? ⟨w.heap.size,0,none⟩=some (.string l1)∧W.cell? ⟨w.heap.size,1,none⟩=some (.string h1)∧W.cell? ⟨w.heap.size+1,0,none⟩=some (.string l2)∧W.cell? ⟨w.heap.size+1,1,none⟩=some (.string h2)) from fun W hB=>by
  obtain⟨c0,c1,c2,c3⟩:=hS0
  exact⟨(hB.cell (p:=⟨w.heap.size,0,none⟩) (by show w.heap.size<_;omega)).trans c0,(hB.cell (p:=⟨w.heap.size,1,none⟩) (by show w.heap.size<_;omega)).trans c1,(hB.cell (p:=⟨w.heap.size+1,0,none⟩) (by show w.heap.size+1<_;omega)).trans c2,(hB.cell (p:=⟨w.heap.size+1,1,none⟩) (by show w.heap.size+1<_;omega)).trans c3⟩)
 have KZ:=hid (show ∀ W:World,Below w0.heap.size w0 W→w.heap.size+3≤W.heap.size from fun W hB=>by have:=hB.size;omega)
 have KB:=hid (show ∀ W:World,Below w0.heap.size w0 W→Below w.heap.size w W from fun W hB=>hB0.trans (hB.mono (by omega)))
 have hR0:w0.cell? ⟨w.heap.size+1+1,0,none⟩=some (.string ⟨#[]⟩)∧w0.cell? ⟨w.heap.size+1+1,1,none⟩=some (.string ⟨#[]⟩)∧w0.frozen? ⟨w.heap.size+1+1,0,none⟩=false∧w0.frozen? ⟨w.heap.size+1+1,1,none⟩=false:=by rw[hw0];exact⟨((q_new).trans rfl),((q_new).trans rfl),(fq_new),(fq_new)⟩
 have KR:=hid (show ∀ W:World,Below w0.heap.size w0 W→(W.cell? ⟨w.heap.size+1+1,0,none⟩=some (.string ⟨#[]⟩)∧W.cell? ⟨w.heap.size+1+1,1,none⟩=some (.string ⟨#[]⟩)∧W.frozen? ⟨w.heap.size+1+1,0,none⟩=false∧W.frozen? ⟨w.heap.size+1+1,1,none⟩=false) from fun W hB=>by
  obtain⟨c0,c1,f0,f1⟩:=hR0
  exact⟨(hB.cell (p:=⟨w.heap.size+1+1,0,none⟩) (by show w.heap.size+1+1<_;omega)).trans c0,(hB.cell (p:=⟨w.heap.size+1+1,1,none⟩) (by show w.heap.size+1+1<_;omega)).trans c1,(hB.frozen (p:=⟨w.heap.size+1+1,0,none⟩) (by show w.heap.size+1+1<_;omega)).trans f0,(hB.frozen (p:=⟨w.heap.size+1+1,1,none⟩) (by show w.heap.size+1+1<_;omega)).trans f1⟩)
 clear hR0
 have KT0:=hid (show ∀ (W:World) (v u:Value),Below w0.heap.size w0 W→(((W.setCell ⟨w.heap.size+1+1,0,none⟩ v).setCell ⟨w.heap.size+1+1,1,none⟩ u).cell? ⟨w.heap.size,0,none⟩=some (.string l1)∧((W.setCell ⟨w.heap.size+1+1,0,none⟩ v).setCell ⟨w.heap.size+1+1,1,none⟩ u).cell? ⟨w.heap.size,1,none⟩=some (.string h1)∧((W.setCell ⟨w.heap.size+1+1,0,none⟩ v).setCell ⟨w.heap.size+1+1,1,none⟩ u).cell? ⟨w.heap.size+1,0,none⟩=some (.string l2)∧((W.setCell ⟨w.heap.size+1+1,0,none⟩ v).setCell ⟨w.heap.size+1+1,1,none⟩ u).cell? ⟨w.heap.size+1,1,none⟩=some (.string h2)) from fun W v u hB=>by
  have hh:=KS.out W hB
  obtain⟨c0,c1,c2,c3⟩:=hh
  exact⟨(q_set (by omega)).trans ((q_set (by omega)).trans c0),(q_set (by omega)).trans ((q_set (by omega)).trans c1),(q_set (by omega)).trans ((q_set (by omega)).trans c2),(q_set (by omega)).trans ((q_set (by omega)).trans c3)⟩)
 have F0:=hid (Below.refl w0.heap.size w0)
 have HW0:=hid hw0
 clear hz0 hB0 hS0 hw0
 have HL:=hid (show ∀ W:World,Below w0.heap.size w0 W→La W from fun W hB=>hl.on (KB.out W hB))
 clear hl g1 g2 g3 g4
 go_enter Tryz.func21,Tryz.ntmps21
 go_wp2_with fail
 rw[← HW0.out]
 obtain⟨d0,d1,d2,d3⟩:=KS.out _ F0.out
 go_wp2_with fail
 refine(C1.out _ (HL.out _ F0.out)).mono ?_
 rintro e w1 ⟨rfl,hb⟩
 have F1:=hid (fr_chain F0.out hb)
 clear hb d0 d1 d2 d3
 obtain⟨d0,d1,d2,d3⟩:=KS.out _ F1.out
 go_wp2_with fail
 refine(C2.out _ (HL.out _ F1.out)).mono ?_
 rintro e w2 ⟨rfl,hb⟩
 have F2:=hid (fr_chain F1.out hb)
 clear hb d0 d1 d2 d3
 obtain⟨d0,d1,d2,d3⟩:=KS.out _ F2.out
 go_wp2_with fail
 refine(C3.out _ (HL.out _ F2.out)).mono ?_
 rintro e w3 ⟨rfl,hb⟩
 have F3:=hid (fr_chain F2.out hb)
 clear hb d0 d1 d2 d3
 obtain⟨d0,d1,d2,d3⟩:=KS.out _ F3.out
 go_wp2_with fail
 refine(C4.out _ (HL.out _ F3.out)).mono ?_
 rintro e w4 ⟨rfl,hb⟩
 have F4:=hid (fr_chain F3.out hb)
 clear hb d0 d1 d2 d3
 obtain⟨d0,d1,d2,d3⟩:=KS.out _ F4.out
 all_goals
  obtain⟨m0,m1,n0,n1⟩:=KR.out _ F4.out
  have hz:=KZ.out _ F4.out
  go_wp2
  refine bodyPost_ret (v:=.tuple #[.agg #[.string r,.string s],.int .i64 0]) (by simp[results,Tryz.results21,go_sem,m0,m1]) rfl ⟨rfl,?_⟩
  repeat (first|exact KB.out _ F4.out|refine Below.setCell ?_ (by first|omega|(simp;omega)|simp) _|refine Below.alloc ?_ (by first|omega|(simp;omega)|simp) _|refine Below.drew ?_)
end Go.Proofs.YtggoeabhbkbadaaGreatDoor
