/- Texts of this proof, one behind the other. -/
import Derived.Test.YtmigpoiajkihhaaGreatDoorMz1q
import Derived.Test.YtmigpoiajkihhaaGreatDoorSq
import Derived.Test.YtmigpoiajkihhaaGreatDoorMz50q
import Derived.Test.YtmigpoiajkihhaaGreatDoorMz47q
import Derived.Test.YtmigpoiajkihhaaGreatDoorSu
import Derived.Test.YtmigpoiajkihhaaGreatDoorMz35q
import Derived.Test.YtmigpoiajkihhaaGreatDoorMz15q
import Derived.Test.YtmigpoiajkihhaaGreatDoorMz16q
/- garboardref03.From of any text, in numbers. -/
namespace Go.Proofs.YtmigpoiajkihhaaGreatDoor
open Go.RowKit Go.Gb
theorem quiet_below {f : FuncId} {args : Array Value} {w : World} {v : Value} (h : Calls Tryz.prog f args w fun e w' => e = .returned v ∧ w = w') : Calls Tryz.prog f args w fun e w' => e = .returned v ∧ Below w.heap.size w w' := by
 refine h.mono ?_
 rintro e w' ⟨rfl, rfl⟩
 exact ⟨rfl, Below.refl _ _⟩
theorem at_list {s : ByteArray} {k : Nat} (h : k < s.size) : s[k] = s.data.toList[k]'(by rw [size_list]; exact h) := (get_list s k h).symm
theorem sSplit_no (s : ByteArray) (hn : (47 : UInt8) ∉ s.data.toList) (hs : s.size ≤ 1000) (W : World) :
 Calls Tryz.prog 43 #[.string s] W fun e w' => e = .returned (.tuple #[.string s, .string ⟨#[49]⟩, .bool false]) ∧ Below W.heap.size W w' :=
 quiet_below (split_no s (fun k h e => hn (by rw [← e, at_list h]; exact List.getElem_mem _)) (by unfold maxLen; omega) W)
theorem sSplit_yes (s : ByteArray) (x y : List UInt8) (hl : s.data.toList = x ++ 47 :: y) (hn : (47 : UInt8) ∉ x) (hs : s.size ≤ 1000) (W : World) :
 Calls Tryz.prog 43 #[.string s] W fun e w' => e = .returned (.tuple #[.string ⟨x.toArray⟩, .string ⟨y.toArray⟩, .bool true]) ∧ Below W.heap.size W w' := by
 have hsz : s.size = x.length + (y.length + 1) := by rw [← size_list, hl]; simp
 have hxs : (⟨x.toArray⟩ : ByteArray).size = x.length := by show x.toArray.size = _; simp
 refine split_yes s ⟨x.toArray⟩ ⟨y.toArray⟩ (by omega) ?_ ?_ ?_ ?_ (by unfold maxLen; omega) W
 · intro k hk h2 e
   apply hn
   rw [← e, at_list h2]
   simp only [hl]
   rw [List.getElem_append_left (by omega)]
   exact List.getElem_mem _
 · rw [at_list (by omega)]
   simp only [hl, hxs]
   rw [List.getElem_append_right (Nat.le_refl _)]
   simp
 · apply ByteArray.ext; apply Array.ext'
   rw [extract_list, hl, hxs]; simp
 · apply ByteArray.ext; apply Array.ext'
   rw [extract_list, hl, hxs, hsz]; simp
   exact List.take_of_length_le (by omega)
theorem sFrom (q : Rat) (hq : SmQ 900 q) (hs : (Sq q).size ≤ 1000) (W : World) :
 Calls Tryz.prog 44 #[.string (Sq q)] W fun e w' => ∃ p c s d, e = .returned (.tuple #[.agg #[.bool (zneg q.num), .slice p (zlen q.num) c, .slice s (nlen q.den) d], .bool true]) ∧ RN w' (.slice p (zlen q.num) c) q.num.natAbs ∧ RN w' (.slice s (nlen q.den) d) q.den ∧ Below W.heap.size W w' := by
 have fn : FitZ q.num := by unfold FitZ Fit; exact Sm.mono hq.1 (by decide)
 have z1 : (Sz q.num).size ≤ 901 := sz_size hq.1 (by decide)
 have z2 : (Sn q.den).size ≤ 900 := sn_size hq.2 (by decide)
 have hR := fun W => rz_sh (zRead q.num fn W)
 by_cases hd : q.den = 1
 · rw [sq_int hd] at hs ⊢
   rw [hd]
   refine from_int (Sz q.num) (Sz q.num) ⟨#[49]⟩ q.num 1 W (fun W => sSplit_no _ (sz_no 47 (by decide) (by decide) _) hs W) (fun W => quiet_below (zrValid q.num (by omega) W)) (fun W => quiet_below ?_) hR (fun W => ?_)
   · exact RValid_any ⟨#[49]⟩ W (by decide)
   · exact own_rn (RFrom_any ⟨#[49]⟩ (by decide) (by decide) W)
 · have hn0 : q.num ≠ 0 := by
    intro e
    have := q.reduced
    rw [e] at this
    unfold Nat.Coprime at this
    rw [Int.natAbs_zero, Nat.gcd_zero_left] at this
    exact hd this
   have hd1 : 1 < q.den := by have := q.den_pos; omega
   have lz : zlen q.num ≤ 900 := sm_digs hq.1 (by decide)
   have ln : nlen q.den ≤ 900 := sm_digs hq.2 (by decide)
   have e0 : Sn q.den = ⟨(Lib.decDigits q.den).toArray⟩ := rfl
   have e1 : (⟨(Sz q.num).data.toList.toArray⟩ : ByteArray) = Sz q.num := by simp
   have hsp := fun W => sSplit_yes (Sq q) _ _ (sq_frac_list hd) (sz_no 47 (by decide) (by decide) _) hs W
   rw [e1, ← e0] at hsp
   refine from_frac (Sq q) (Sz q.num) (Sn q.den) q.num 1 q.num.sign q.den 1 1 (by decide) (fun e => hn0 (Int.sign_eq_zero_iff_zero.1 e)) W hsp (fun W => quiet_below (zrValid q.num (by omega) W)) (fun W => quiet_below ?_) hR (fun W => ?_)
    (fun W => cSmallL 1 1 rfl (by decide) W) (fun s1 d1 s2 d2 W h1 h2 => ?_) (fun p c W h => sSignum q.num _ rfl p c W h) (fun p1 c1 s2 d2 W h1 h2 => ?_) (fun s1 d1 s2 d2 W h1 h2 => ?_)
   · have h := RValid_any (Sn q.den) W (by unfold maxLen; omega)
     rwa [sn_vld] at h
   · have h := own_rn (RFrom_any (Sn q.den) (by rw [sn_list]; exact dec_all _) (by omega) W)
     rwa [sn_dval] at h
   · have h := cCmp (.slice s1 (nlen q.den) d1) (.slice s2 (nlen 1) d2) q.den 1 (by omega) W h1 h2
     rwa [show cmpN q.den 1 = 1 by unfold cmpN; rw [if_neg (by omega), if_pos hd1]] at h
   · exact cCommon _ _ _ _ 1 q.reduced (Nat.le_trans lz (by decide)) (by omega) W h1 h2
   · have h := cCmp (.slice s1 (nlen 1) d1) (.slice s2 (nlen 1) d2) 1 1 (by rw [nlen_one]; decide) W h1 h2
     rwa [show cmpN 1 1 = 0 by decide] at h
theorem sFrom_no (a : ByteArray) (hv : vldQ a.data.toList = false) (hs : a.size ≤ 900) (W : World) :
 Calls Tryz.prog 44 #[.string a] W fun e w' => ∃ p c s d, e = .returned (.tuple #[.agg #[.bool (zneg (0 : Rat).num), .slice p (zlen (0 : Rat).num) c, .slice s (nlen (0 : Rat).den) d], .bool false]) ∧ RN w' (.slice p (zlen (0 : Rat).num) c) (0 : Rat).num.natAbs ∧ RN w' (.slice s (nlen (0 : Rat).den) d) (0 : Rat).den ∧ Below W.heap.size W w' := by
 have hI := fun W => sQInt 0 0 0 rfl (by decide) rfl rfl W
 rcases cut_parts 47 a.data.toList with ⟨h47, e⟩ | ⟨x, y, h47, el, e⟩
 · unfold vldQ at hv
   rw [e] at hv
   simp only [Bool.false_eq_true, if_false] at hv
   exact from_badP a a ⟨#[49]⟩ _ _ false W (fun W => sSplit_no a h47 (by omega) W) (fun W => quiet_below (zrValid_no a hv (by omega) W)) hI
 · have hlen : x.length + (y.length + 1) = a.size := by rw [← size_list, el]; simp
   have hsp := fun W => sSplit_yes a x y el h47 (by omega) W
   have sx : (⟨x.toArray⟩ : ByteArray).size ≤ 1000 := by show x.toArray.size ≤ 1000; simp; omega
   have sy : (⟨y.toArray⟩ : ByteArray).size ≤ 900 := by show y.toArray.size ≤ 900; simp; omega
   unfold vldQ at hv
   rw [e] at hv
   simp only [if_true] at hv
   cases hx : vldZ x with
   | false => exact from_badP a ⟨x.toArray⟩ ⟨y.toArray⟩ _ _ true W hsp (fun W => quiet_below (zrValid_no ⟨x.toArray⟩ (by simpa using hx) sx W)) hI
   | true =>
     obtain ⟨z, hz⟩ : ∃ z, z = zval x := ⟨_, rfl⟩
     have ex : (⟨x.toArray⟩ : ByteArray) = Sz z := by rw [hz]; have := sz_of (a := ⟨x.toArray⟩) (by simpa using hx); simpa using this
     have sx2 : (Sz z).size ≤ 900 := by rw [← ex]; show x.toArray.size ≤ 900; simp; omega
     rw [ex] at hsp sx
     have hVx := fun W => quiet_below (zrValid z sx W)
     cases hy : vld y with
     | false =>
       refine from_badD a (Sz z) ⟨y.toArray⟩ _ _ true W hsp hVx (fun W => quiet_below ?_) hI
       have h := RValid_any ⟨y.toArray⟩ W (by unfold maxLen; omega)
       rwa [show vld (⟨y.toArray⟩ : ByteArray).data.toList = false by simpa using hy] at h
     | true =>
       obtain ⟨n, hn⟩ : ∃ n, n = dval y := ⟨_, rfl⟩
       have ey : (⟨y.toArray⟩ : ByteArray) = Sn n := by rw [hn]; have := sn_of (a := ⟨y.toArray⟩) (by simpa using hy); simpa using this
       have yl : y = Lib.decDigits n := by
        have := congrArg (fun b : ByteArray => b.data.toList) ey
        simpa [sn_list] using this
       rw [ey] at hsp sy
       have hVy : CQ 80 #[.string (Sn n)] (.bool true) := fun W => quiet_below (by
        have h := RValid_any (Sn n) W (by unfold maxLen; omega)
        rwa [sn_vld] at h)
       have kz : Sm 900 z.natAbs := smz_of' sx2
       have kn : Sm 900 n := by have := Sm.of (a := Sn n) (sn_vld n) sy; rwa [sn_dval] at this
       have lz : zlen z ≤ 900 := sm_digs kz (by decide)
       have ln : nlen n ≤ 900 := sm_digs kn (by decide)
       have hR := fun W => rz_sh (zRead z (by unfold FitZ Fit; exact Sm.mono kz (by decide)) W)
       have hF : ∀ W, Calls Tryz.prog 70 #[.string (Sn n)] W fun e w' => ∃ p c, e = .returned (.slice p (nlen n) c) ∧ RN w' (.slice p (nlen n) c) n ∧ Below W.heap.size W w' := fun W => by
        have h := own_rn (RFrom_any (Sn n) (by rw [sn_list]; exact dec_all _) (by omega) W)
        rwa [sn_dval] at h
       have hO := fun W => cSmallL 1 1 rfl (by decide) W
       have hC := fun (s1 : Option Addr) (d1 : Nat) (s2 : Option Addr) (d2 : Nat) W h1 h2 => cCmp (.slice s1 (nlen n) d1) (.slice s2 (nlen 1) d2) n 1 (by omega) W h1 h2
       have hS := fun p c W h => sSignum z _ rfl p c W h
       by_cases n1 : n ≤ 1
       · exact from_small a (Sz z) (Sn n) z (cmpN n 1) _ n 1 _ (by unfold cmpN; split <;> first | (split <;> omega) | omega) W hsp hVx hVy hR hF hO hC hI
       · have hk : 0 < cmpN n 1 := by unfold cmpN; rw [if_neg (by omega), if_pos (by omega)]; decide
         by_cases z0 : z = 0
         · subst z0
           exact from_zero a (Sz 0) (Sn n) 0 (cmpN n 1) _ n 1 _ hk W hsp hVx hVy hR hF hO hC hS hI
         · have hsg : z.sign ≠ 0 := fun e => z0 (Int.sign_eq_zero_iff_zero.1 e)
           have hG := fun (p1 : Option Addr) (c1 : Nat) (s2 : Option Addr) (d2 : Nat) W h1 h2 => cCommon (.slice p1 (zlen z) c1) (.slice s2 (nlen n) d2) z.natAbs n _ rfl (Nat.le_trans lz (by decide)) (by omega) W h1 h2
           have lg : nlen (Nat.gcd z.natAbs n) ≤ 900 := Nat.le_trans (nlen_mono (Nat.gcd_le_right _ (by omega))) ln
           by_cases g1 : Nat.gcd z.natAbs n = 1
           · exfalso
             have : vldP x y = true := by
               unfold vldP
               rw [hx, yl, vldZ_nat, zval_nat, ← hz]
               have e1 : (Lib.decDigits n == [49]) = false := by
                 rw [beq_eq_false_iff_ne]
                 intro e
                 have e2 : Sn n = Sn 1 := by
                   apply ByteArray.ext; apply Array.ext'
                   rw [sn_list, e]; decide +kernel
                 have := sn_inj e2
                 omega
               rw [e1]
               simp [g1]
               omega
             rw [this] at hv
             cases hv
           · refine from_shared a (Sz z) (Sn n) z (cmpN n 1) (cmpN (Nat.gcd z.natAbs n) 1) _ _ n 1 (Nat.gcd z.natAbs n) _ hk hsg ?_ W hsp hVx hVy hR hF hO hC hS hG (fun s1 d1 s2 d2 W h1 h2 => cCmp _ _ _ _ (by omega) W h1 h2) hI
             unfold cmpN
             split
             · decide
             · split
               · decide
               · omega
end Go.Proofs.YtmigpoiajkihhaaGreatDoor
/- garboardref03: Both, Compare, Sum, Difference, Product, Quotient in numbers. -/
namespace Go.Proofs.YtmigpoiajkihhaaGreatDoor
open Go.RowKit Go.Gb
theorem sFrom_any (a : ByteArray) (ha : a.size ≤ 900) : ∃ q : Rat, ∀ W, Calls Tryz.prog 44 #[.string a] W fun e w' => ∃ p c s d, e = .returned (.tuple #[.agg #[.bool (zneg q.num), .slice p (zlen q.num) c, .slice s (nlen q.den) d], .bool (vldQ a.data.toList)]) ∧ RN w' (.slice p (zlen q.num) c) q.num.natAbs ∧ RN w' (.slice s (nlen q.den) d) q.den ∧ Below W.heap.size W w' := by
 cases h : vldQ a.data.toList with
 | false => exact ⟨0, fun W => sFrom_no a h ha W⟩
 | true =>
   have e := sq_of h
   obtain ⟨q, hq⟩ : ∃ q, q = qval a.data.toList := ⟨_, rfl⟩
   rw [← hq] at e
   subst e
   exact ⟨q, fun W => sFrom q (smq_of ha (by decide)) (by omega) W⟩
end Go.Proofs.YtmigpoiajkihhaaGreatDoor
/- garboardref03: Valid, Parts, Make, Whole, Floor, simplest, Simplest in numbers. -/
namespace Go.Proofs.YtmigpoiajkihhaaGreatDoor
open Go.RowKit Go.Gb
theorem srValid (a : ByteArray) (ha : a.size ≤ 900) (W : World) :
 Calls Tryz.prog 14 #[.string a] W fun e w' => e = .returned (.bool (vldQ a.data.toList)) ∧ Below W.heap.size W w' := by
 obtain ⟨q, h⟩ := sFrom_any a ha
 exact rvalid_raw a q.num q.den _ W h
theorem srParts (x : Rat) (sx : (Sq x).size ≤ 900) (W : World) :
 Calls Tryz.prog 12 #[.string (Sq x)] W fun e w' => e = .returned (.tuple #[.string (Sz x.num), .string (Sz (x.den : Int)), .int .i64 0]) ∧ Below W.heap.size W w' := by
 have hv := fun W => srValid (Sq x) sx W
 rw [sq_vld] at hv
 by_cases hd : x.den = 1
 · rw [sq_int hd] at hv sx ⊢
   have h := rparts_yes (Sz x.num) (Sz x.num) ⟨#[49]⟩ false W hv (fun W => sSplit_no _ (sz_no 47 (by decide) (by decide) _) (by omega) W)
   rwa [hd, show Sz ((1 : Nat) : Int) = ⟨#[49]⟩ from sz_one]
 · have hsp := fun W => sSplit_yes (Sq x) _ _ (sq_frac_list hd) (sz_no 47 (by decide) (by decide) _) (by omega) W
   have e1 : (⟨(Sz x.num).data.toList.toArray⟩ : ByteArray) = Sz x.num := by simp
   rw [e1, mk_dec] at hsp
   exact rparts_yes (Sq x) _ _ true W hv hsp
theorem srParts_no (a : ByteArray) (h : vldQ a.data.toList = false) (ha : a.size ≤ 900) (W : World) :
 Calls Tryz.prog 12 #[.string a] W fun e w' => e = .returned (.tuple #[.string ⟨#[]⟩, .string ⟨#[]⟩, .int .i64 1]) ∧ Below W.heap.size W w' :=
 rparts_no a W (fun W => by have := srValid a ha W; rwa [h] at this)
theorem divInt_abs (a b : Int) (hb : b ≠ 0) : mkRat (if (zneg a != zneg b) = true then -(a.natAbs : Int) else (a.natAbs : Int)) b.natAbs = Rat.divInt a b := by
 rcases Int.lt_or_le b 0 with h | h
 · obtain ⟨n, hn, rfl⟩ : ∃ n : Nat, n ≠ 0 ∧ b = -(n : Int) := ⟨b.natAbs, by omega, by omega⟩
   rw [Int.natAbs_neg, Int.natAbs_natCast, Rat.divInt_neg']
   show mkRat _ n = mkRat (-a) n
   congr 1
   unfold zneg
   rw [decide_eq_true h]
   by_cases ha : a < 0
   · rw [decide_eq_true ha]; simp; omega
   · rw [decide_eq_false ha]; simp; omega
 · obtain ⟨n, rfl⟩ : ∃ n : Nat, b = (n : Int) := ⟨b.natAbs, by omega⟩
   rw [Int.natAbs_natCast]
   show mkRat _ n = mkRat a n
   congr 1
   unfold zneg
   rw [decide_eq_false (show ¬ (n : Int) < 0 by omega)]
   by_cases ha : a < 0
   · rw [decide_eq_true ha]; simp; omega
   · rw [decide_eq_false ha]; simp; omega
theorem srMake (a b : Int) (q : Rat) (hq : Rat.divInt a b = q) (hb : b ≠ 0) (ha : Sm 900 a.natAbs) (fb : Sm 900 b.natAbs) (W : World) :
 Calls Tryz.prog 10 #[.string (Sz a), .string (Sz b)] W fun e w' => e = .returned (.tuple #[.string (Sq q), .int .i64 0]) ∧ Below W.heap.size W w' := by
 have la : zlen a ≤ 900 := sm_digs ha (by decide)
 have lb : zlen b ≤ 900 := sm_digs fb (by decide)
 have sa : (Sz a).size ≤ 901 := sz_size ha (by decide)
 have sb : (Sz b).size ≤ 901 := sz_size fb (by decide)
 have fa : FitZ a := by unfold FitZ Fit; exact Sm.mono ha (by decide)
 have fb' : FitZ b := by unfold FitZ Fit; exact Sm.mono fb (by decide)
 obtain ⟨z, hz⟩ : ∃ z, z = (if (zneg a != zneg b) = true then -(a.natAbs : Int) else (a.natAbs : Int)) := ⟨_, rfl⟩
 have hza : z.natAbs = a.natAbs := by rw [hz]; split <;> simp
 have hm := divInt_abs a b hb
 rw [← hz, hq] at hm
 have lz : zlen z ≤ 900 := by unfold zlen at la ⊢; rw [hza]; exact la
 have sq : SmQ 900 q := by rw [← hm]; exact smq_mk (by omega) (by rw [hza]; exact ha) fb
 exact rmake_yes (Sz a) (Sz b) (Sq q) a b z q.num b.sign q.den (fun e => hb (Int.sign_eq_zero_iff_zero.1 e)) W
  (fun W => quiet_below (zrValid a (by omega) W)) (fun W => quiet_below (zrValid b (by omega) W)) (fun W => rz_sh (zRead a fa W)) (fun W => rz_sh (zRead b fb' W))
  (fun p c W h => sSignum b _ rfl p c W h) (fun p c W h => cMake _ _ a.natAbs z hz (Nat.le_trans la (by decide)) W h)
  (fun p1 c1 p2 c2 W h1 h2 => sLowest z b.natAbs q hm (by omega) (by omega) (Nat.le_trans lb (by decide)) p1 c1 p2 c2 W h1 h2)
  (fun p1 c1 s1 d1 W h1 h2 => sQTo q _ rfl (SmQ.mono sq (by decide)) p1 c1 s1 d1 W h1 h2)
theorem srMake_zero (a : Int) (ha : Sm 900 a.natAbs) (W : World) :
 Calls Tryz.prog 10 #[.string (Sz a), .string ⟨#[48]⟩] W fun e w' => e = .returned (.tuple #[.string ⟨#[]⟩, .int .i64 16]) ∧ Below W.heap.size W w' := by
 have sa : (Sz a).size ≤ 901 := sz_size ha (by decide)
 have fa : FitZ a := by unfold FitZ Fit; exact Sm.mono ha (by decide)
 have h := rmake_zero (Sz a) (Sz 0) a 0 W (fun W => quiet_below (zrValid a (by omega) W)) (fun W => quiet_below (zrValid 0 (by decide +kernel) W)) (fun W => rz_sh (zRead a fa W)) (fun W => rz_sh (zRead 0 fl0.z W)) (fun p c W h => sSignum 0 _ rfl p c W h)
 rwa [sz_zero] at h
theorem srMake_bad1 (a b : ByteArray) (h : vldZ a.data.toList = false) (ha : a.size ≤ 900) (W : World) :
 Calls Tryz.prog 10 #[.string a, .string b] W fun e w' => e = .returned (.tuple #[.string ⟨#[]⟩, .int .i64 1]) ∧ Below W.heap.size W w' := rmake_bad1 a b W (fun W => quiet_below (zrValid_no a h (by omega) W))
theorem srMake_bad2 (x : Int) (b : ByteArray) (h : vldZ b.data.toList = false) (hx : (Sz x).size ≤ 900) (hb : b.size ≤ 900) (W : World) :
 Calls Tryz.prog 10 #[.string (Sz x), .string b] W fun e w' => e = .returned (.tuple #[.string ⟨#[]⟩, .int .i64 1]) ∧ Below W.heap.size W w' := rmake_bad2 (Sz x) b W (fun W => quiet_below (zrValid x (by omega) W)) (fun W => quiet_below (zrValid_no b h (by omega) W))
end Go.Proofs.YtmigpoiajkihhaaGreatDoor
