/- rational.Decimal of any number; Parse of a decimal text. -/
import Derived.Test.YtlagimghlngdgaaGreatDoorMqn
namespace Go.Proofs.YtlagimghlngdgaaGreatDoor
open Go.RowKit Go.Gb

theorem tens_of (n : Nat) (h1 : 48 ≤ n) (h2 : n ≤ 57) : UInt8.ofNat n ∈ tens := by
  have hc : n = 48 ∨ n = 49 ∨ n = 50 ∨ n = 51 ∨ n = 52 ∨ n = 53 ∨ n = 54 ∨ n = 55 ∨ n = 56 ∨ n = 57 := by omega
  rcases hc with rfl | rfl | rfl | rfl | rfl | rfl | rfl | rfl | rfl | rfl <;> decide
theorem dec_tens (n : Nat) : ∀ x ∈ Lib.decDigits n, x ∈ tens := by
  intro x hx
  have h := (isD_iff x).1 (List.all_eq_true.1 (dec_all n) x hx)
  have h3 := tens_of x.toNat h.1 h.2
  simpa using h3
theorem rep_mem : ∀ (c : Nat) (x : UInt8), x ∈ Lib.repeatL [48] c → x = 48
  | 0, x, h => by simp [Lib.repeatL] at h
  | c + 1, x, h => by
    rcases List.mem_append.1 h with h | h
    · simpa using h
    · exact rep_mem c x h
theorem pad_tens (m n : Nat) : ∀ x ∈ padL (Lib.decDigits m) n, x ∈ tens := by
  intro x hx
  rcases List.mem_append.1 hx with h | h
  · rw [rep_mem _ x h]; decide
  · exact dec_tens m x h
theorem rep_trim (l : List UInt8) : ∀ c : Nat, (Lib.repeatL [48] c ++ l).dropWhile (· == 48) = l.dropWhile (· == 48)
  | 0 => rfl
  | c + 1 => by
    show (48 :: (Lib.repeatL [48] c ++ l)).dropWhile (· == 48) = _
    rw [List.dropWhile_cons, if_pos (by decide)]
    exact rep_trim l c
theorem pad_trim (l : List UInt8) (n : Nat) : Lib.trimLeftB (padL l n) 48 = Lib.trimLeftB l 48 := rep_trim l _
theorem dec_trim {m : Nat} (h : 0 < m) : Lib.trimLeftB (Lib.decDigits m) 48 = Lib.decDigits m := by
  have h1 := dec_head m h
  cases hd : Lib.decDigits m with
  | nil => rfl
  | cons c t =>
    rw [hd] at h1
    unfold Lib.trimLeftB
    rw [List.dropWhile_cons, if_neg]
    simp only [List.headD_cons] at h1
    intro hc
    have hc2 : c = 48 := by simpa using hc
    subst hc2
    exact h1 rfl
theorem dec_trim0 : Lib.trimLeftB (Lib.decDigits 0) 48 = [] := by decide +kernel
def headL (l : List UInt8) (n : Nat) : List UInt8 := (padL l n).take ((padL l n).length - n)
def tailL (l : List UInt8) (n : Nat) : List UInt8 := (padL l n).drop ((padL l n).length - n)
theorem point_parts (l : List UInt8) (n : Nat) : pointL l n = headL l n ++ 46 :: tailL l n := rfl
theorem head_tail (l : List UInt8) (n : Nat) : headL l n ++ tailL l n = padL l n := List.take_append_drop _ _
theorem tail_len (l : List UInt8) (n : Nat) : (tailL l n).length = n := by
  unfold tailL
  rw [List.length_drop, pad_len]
  omega
theorem head_len (l : List UInt8) (n : Nat) : (headL l n).length = max (n + 1) l.length - n := by
  unfold headL
  rw [List.length_take, pad_len]
  omega
theorem head_tens (m n : Nat) : ∀ x ∈ headL (Lib.decDigits m) n, x ∈ tens := fun x hx => pad_tens m n x (List.mem_of_mem_take hx)
theorem tail_tens (m n : Nat) : ∀ x ∈ tailL (Lib.decDigits m) n, x ∈ tens := fun x hx => pad_tens m n x (List.mem_of_mem_drop hx)
theorem head_no (c : UInt8) (hc : c ∉ tens) (m n : Nat) : c ∉ headL (Lib.decDigits m) n := fun h => hc (head_tens m n c h)
theorem tail_no (c : UInt8) (hc : c ∉ tens) (m n : Nat) : c ∉ tailL (Lib.decDigits m) n := fun h => hc (tail_tens m n c h)
theorem head_first (m n : Nat) : ∃ c t, headL (Lib.decDigits m) n = c :: t ∧ c ≠ 45 := by
  cases h : headL (Lib.decDigits m) n with
  | nil =>
    have h1 := head_len (Lib.decDigits m) n
    rw [h] at h1
    simp only [List.length_nil] at h1
    omega
  | cons c t =>
    refine ⟨c, t, rfl, ?_⟩
    rintro rfl
    exact head_no 45 (by decide) m n (by rw [h]; exact .head _)
/-- The text of an integer with a point ahead of its last n digits. -/
def decB (z : Int) (n : Nat) : ByteArray := if n = 0 then Sz z else if z < 0 then ⟨(45 :: pointL (Lib.decDigits z.natAbs) n).toArray⟩ else pointB (Lib.decDigits z.natAbs) n
theorem minus_point (l : List UInt8) (n : Nat) : (⟨#[45]⟩ ++ pointB l n : ByteArray) = ⟨(45 :: pointL l n).toArray⟩ := by
  apply ByteArray.ext
  apply Array.ext'
  simp [pointB]
theorem place_any (z : Int) (n : Nat) (hn : n ≤ 64) (hz : (Sz z).size ≤ 3000) (w : World) :
    Calls Tryz.prog 62 #[.string (Sz z), .int .i64 (n : Int)] w fun e w' => e = .returned (.string (decB z n)) ∧ Below w.heap.size w w' := by
  rcases Nat.eq_zero_or_pos n with h0 | h0
  · subst h0
    unfold decB
    rw [if_pos rfl]
    exact place_zero _ w
  · unfold decB
    rw [if_neg (by omega)]
    by_cases hs : z < 0
    · obtain ⟨m, hm, rfl⟩ : ∃ m : Nat, m ≠ 0 ∧ z = -(m : Int) := ⟨z.natAbs, by omega, by omega⟩
      rw [if_pos hs, Int.natAbs_neg, Int.natAbs_natCast, ← minus_point]
      rw [sz_neg hm] at hz ⊢
      exact place_neg _ ⟨(Lib.decDigits m).toArray⟩ n h0 hn (by rw [size_mk] at hz ⊢; simp at hz; omega) w (fun W => cut_neg _ W)
    · obtain ⟨m, rfl⟩ : ∃ m : Nat, z = (m : Int) := ⟨z.natAbs, by omega⟩
      rw [if_neg hs, Int.natAbs_natCast]
      rw [sz_nat] at hz ⊢
      have h := place_pos (Sn m) (Sn m) n h0 hn hz w (fun W => cut_not _ (by
        intro t ht
        obtain ⟨c, u, hc, h45⟩ := head_dig (n := m)
        rw [sn_list, hc] at ht
        injection ht with h1 h2
        exact h45 h1) W)
      rwa [sn_list] at h
theorem near_le (x d : Int) (hd : 0 < d) : (nearZ x d).natAbs ≤ x.natAbs * 2 + d.natAbs := by
  unfold nearZ
  have h1 : ((x.natAbs : Int) * 2 + d) / (d * 2) ≤ (x.natAbs : Int) * 2 + d := Int.ediv_le_self _ (by omega)
  have h2 : 0 ≤ ((x.natAbs : Int) * 2 + d) / (d * 2) := Int.ediv_nonneg (by omega) (by omega)
  split <;> omega
theorem near_sm {k : Nat} {x d : Int} (hd : 0 < d) (hx : Sm k x.natAbs) (hk : Sm k d.natAbs) : Sm (k + 1 + 1) (nearZ x d).natAbs := by
  refine Sm.le ?_ (near_le x d hd)
  exact Sm.add (hx.mul (show Sm 1 2 by simp [Sm])) (hk.mono (by omega))
theorem qDecimal (x : Rat) (n : Nat) (hn : n ≤ 64) (hx : FitQ x) (w : World) (hl : La w) :
    Calls Tryz.prog 27 #[.string (Sq x), .int .i64 (n : Int)] w fun e w' => e = .returned (.tuple #[.string (decB (nearZ (x.num * ((10 ^ n : Nat) : Int)) (x.den : Int)) n), .int .i64 0]) ∧ Below w.heap.size w w' := by
  have hp : Sm 65 ((10 ^ n : Nat) : Int).natAbs := sm_pow10 n 65 (by omega)
  have hm : Sm 965 (x.num * ((10 ^ n : Nat) : Int)).natAbs := by rw [Int.natAbs_mul]; exact (Sm.mul (k := 900) hx.1 hp).mono (by decide)
  have hd0 : (0 : Int) < (x.den : Int) := by have := x.den_nz; omega
  have hd : Sm 965 (x.den : Int).natAbs := by rw [Int.natAbs_natCast]; exact Sm.mono (k := 900) hx.2 (by decide)
  have h1 := fun W hW => fread_yes x hx W hW
  unfold Fv at h1
  have h2 := fun W => rpow10 n (by omega) W
  have h3 := fun W hW => rtimes x.num ((10 ^ n : Nat) : Int) _ rfl hx.numL (FitL.of hp (by decide)) (FitL.of hm (by decide)) W hW
  have h4 := fun W hW => rnearest (x.num * ((10 ^ n : Nat) : Int)) (x.den : Int) hd0 (hm.mono (by decide)) (hd.mono (by decide)) W hW
  have hsz : (Sz (nearZ (x.num * ((10 ^ n : Nat) : Int)) (x.den : Int))).size ≤ 3000 := by
    have := sz_size (near_sm hd0 hm hd) (by decide)
    omega
  have h5 := fun W => place_any (nearZ (x.num * ((10 ^ n : Nat) : Int)) (x.den : Int)) n hn hsz W
  exact decimal_raw _ _ _ _ _ _ _ n (by rw [decide_eq_false_iff_not]; omega) (by rw [decide_eq_false_iff_not]; omega) w hl h1 h2 h3 h4 h5
set_option maxHeartbeats 2000000 in
set_option maxRecDepth 100000 in
theorem decimal_no (a : ByteArray) (N : Int) (h : vldQ a.data.toList = false) (ha : a.size ≤ 900) (w : World) (hl : La w) :
    Calls Tryz.prog 27 #[.string a, .int .i64 N] w fun e w' => e = .returned (.tuple #[.string ⟨#[]⟩, .int .i64 1]) ∧ Below w.heap.size w w' := by
  have HR := Lib.hid (fread_no a h ha w hl)
  clear h ha hl
  go_enter Tryz.func27, Tryz.ntmps27
  go_wp2_with fail
  refine HR.out.mono ?_
  rintro e w1 ⟨⟨n, d, rfl⟩, hb⟩
  have HB := Lib.hid (hb.alloc hb.size (.cells #[.string n, .string d] 70))
  clear hb
  go_wp2
  go_ret2
  exact ⟨rfl, HB.out⟩
set_option maxHeartbeats 2000000 in
set_option maxRecDepth 100000 in
theorem parse_valid (s : ByteArray) (w : World) (h1 : Calls Tryz.prog 13 #[.string s] w fun e w' => e = .returned (.bool true) ∧ Below w.heap.size w w') :
    Calls Tryz.prog 30 #[.string s] w fun e w' => e = .returned (.tuple #[.string s, .int .i64 0]) ∧ Below w.heap.size w w' := by
  have C1 := Lib.hid h1
  clear h1
  go_enter Tryz.func30, Tryz.ntmps30
  go_wp2_with fail
  refine C1.out.mono ?_
  rintro e w1 ⟨rfl, hb⟩
  go_wp2
  go_ret2
  exact ⟨rfl, hb⟩
theorem vldQ_no46 {l : List UInt8} (h46 : 46 ∈ l) (h47 : 47 ∉ l) : vldQ l = false := by
  unfold vldQ
  rw [cut_miss 47 l h47]
  cases hv : vldZ l with
  | false => rfl
  | true =>
    have h := szl_of hv
    rw [← h] at h46
    exact absurd h46 (sz_no 46 (by decide) (by decide) _)
theorem point_no47 (m n : Nat) : (47 : UInt8) ∉ pointL (Lib.decDigits m) n := by
  rw [point_parts]
  intro h
  rcases List.mem_append.1 h with h | h
  · exact head_no 47 (by decide) m n h
  · rcases List.mem_cons.1 h with h | h
    · exact absurd h (by decide)
    · exact tail_no 47 (by decide) m n h
theorem point_46 (l : List UInt8) (n : Nat) : (46 : UInt8) ∈ pointL l n := by
  rw [point_parts]
  exact List.mem_append.2 (Or.inr (.head _))
theorem point_cut (m n : Nat) : Lib.cut (pointL (Lib.decDigits m) n) [46] = (headL (Lib.decDigits m) n, tailL (Lib.decDigits m) n, true) := by
  rw [point_parts]
  exact cut_hit 46 _ _ (head_no 46 (by decide) m n)
theorem point_cut_neg (m n : Nat) : Lib.cut (45 :: pointL (Lib.decDigits m) n) [46] = (45 :: headL (Lib.decDigits m) n, tailL (Lib.decDigits m) n, true) := by
  rw [point_parts]
  refine cut_hit 46 (45 :: headL (Lib.decDigits m) n) _ ?_
  intro h
  rcases List.mem_cons.1 h with h | h
  · exact absurd h (by decide)
  · exact head_no 46 (by decide) m n h
theorem point_len (l : List UInt8) (n : Nat) : (pointL l n).length = max (n + 1) l.length + 1 := by
  rw [point_parts, List.length_append, List.length_cons, head_len, tail_len]
  omega
/-- What Parse meets in the text of a number with n places. -/
structure Pts (m n : Nat) : Prop where
  cut : ∀ W, Calls Tryz.prog 29 #[.string (pointB (Lib.decDigits m) n), .string ⟨#[46]⟩] W fun e w' => e = .returned (.tuple #[.string ⟨(headL (Lib.decDigits m) n).toArray⟩, .string ⟨(tailL (Lib.decDigits m) n).toArray⟩, .bool true]) ∧ Below W.heap.size W w'
  whole : ∀ W, Calls Tryz.prog 69 #[.string ⟨(headL (Lib.decDigits m) n).toArray⟩] W fun e w' => e = .returned (.bool true) ∧ Below W.heap.size W w'
  places : ∀ W, Calls Tryz.prog 69 #[.string ⟨(tailL (Lib.decDigits m) n).toArray⟩] W fun e w' => e = .returned (.bool true) ∧ Below W.heap.size W w'
  trim : ∀ W, Calls Tryz.prog 70 #[.string (⟨(headL (Lib.decDigits m) n).toArray⟩ ++ ⟨(tailL (Lib.decDigits m) n).toArray⟩), .string ⟨#[48]⟩] W fun e w' => e = .returned (.string ⟨(Lib.trimLeftB (Lib.decDigits m) 48).toArray⟩) ∧ Below W.heap.size W w'
  power : ∀ W, Calls Tryz.prog 65 #[.int .i64 (((⟨(tailL (Lib.decDigits m) n).toArray⟩ : ByteArray).size : Nat) : Int)] W fun e w' => e = .returned (.string (Sz ((10 ^ n : Nat) : Int))) ∧ Below W.heap.size W w'
  hw : (⟨(headL (Lib.decDigits m) n).toArray⟩ : ByteArray).size ≤ 100000
  hp : (⟨(tailL (Lib.decDigits m) n).toArray⟩ : ByteArray).size ≤ 100000
theorem nil_no {l : List UInt8} (h : l.length ≠ 0) : ((⟨l.toArray⟩ : ByteArray).toList == []) = false := by
  rw [toList_data, mk_list, beq_eq_false_iff_ne]
  rintro rfl
  exact h rfl
theorem pts (m n : Nat) (hn : 1 ≤ n) (hn2 : n ≤ 64) (hl : (Lib.decDigits m).length ≤ 5000) : Pts m n := by
  have h1 := head_len (Lib.decDigits m) n
  have h2 := tail_len (Lib.decDigits m) n
  have s1 : (⟨(headL (Lib.decDigits m) n).toArray⟩ : ByteArray).size ≤ 100000 := by rw [size_mk]; omega
  have s2 : (⟨(tailL (Lib.decDigits m) n).toArray⟩ : ByteArray).size ≤ 100000 := by rw [size_mk]; omega
  refine ⟨fun W => ?_, fun W => ?_, fun W => ?_, fun W => ?_, fun W => ?_, s1, s2⟩
  · have h := cut1 46 (pointB (Lib.decDigits m) n) (by unfold pointB; rw [size_mk, point_len]; omega) W
    rw [show (pointB (Lib.decDigits m) n).data.toList = pointL (Lib.decDigits m) n from rfl, point_cut] at h
    exact h
  · exact rdigits _ (nil_no (by omega)) s1 (by rw [mk_list]; exact head_tens m n) W
  · exact rdigits _ (nil_no (by omega)) s2 (by rw [mk_list]; exact tail_tens m n) W
  · have h := calls_same' (Tryz.strings_TrimLeft_one (⟨(headL (Lib.decDigits m) n).toArray⟩ ++ ⟨(tailL (Lib.decDigits m) n).toArray⟩) 48 (by decide) W)
    rw [show ((⟨(headL (Lib.decDigits m) n).toArray⟩ ++ ⟨(tailL (Lib.decDigits m) n).toArray⟩ : ByteArray)).data.toList = padL (Lib.decDigits m) n by rw [← head_tail]; simp, pad_trim] at h
    exact h
  · rw [size_mk, h2]
    exact rpow10 n (by omega) W
theorem qParse (z : Int) (n : Nat) (hn : n ≤ 64) (hz : Sm 800 z.natAbs) (w : World) (hl : La w) :
    Calls Tryz.prog 30 #[.string (decB z n)] w fun e w' => e = .returned (.tuple #[.string (Sq (Rat.divInt z ((10 ^ n : Nat) : Int))), .int .i64 0]) ∧ Below w.heap.size w w' := by
  rcases Nat.eq_zero_or_pos n with h0 | h0
  · subst h0
    unfold decB
    rw [if_pos rfl]
    have e1 : Sq (Rat.divInt z ((10 ^ 0 : Nat) : Int)) = Sz z := by
      rw [show Rat.divInt z ((10 ^ 0 : Nat) : Int) = Rat.ofInt z by rw [show ((10 ^ 0 : Nat) : Int) = 1 from rfl]; exact Rat.num_divInt_den (Rat.ofInt z), sq_ofInt]
    rw [e1]
    have h := qvalid_yes (Rat.ofInt z) ⟨hz.mono (by decide), (show Sm 900 1 from Sm.mono (k := 1) (show Sm 1 1 by simp [Sm]) (by decide))⟩ w hl
    rw [sq_ofInt] at h
    exact parse_valid _ w h
  · have hp : Sm 65 ((10 ^ n : Nat) : Int).natAbs := sm_pow10 n 65 (by omega)
    have h10 : ((10 ^ n : Nat) : Int) ≠ 0 := by have : 0 < 10 ^ n := Nat.pow_pos (by decide); omega
    have hmk := fun W hW => qMake z ((10 ^ n : Nat) : Int) h10 (FitL.of hz (by decide)) (FitL.of hp (by decide)) W hW
    have hsz := sz_size hz (by decide)
    unfold decB
    rw [if_neg (by omega)]
    by_cases hs : z < 0
    · obtain ⟨m, hm, rfl⟩ : ∃ m : Nat, m ≠ 0 ∧ z = -(m : Int) := ⟨z.natAbs, by omega, by omega⟩
      rw [if_pos hs, Int.natAbs_neg, Int.natAbs_natCast]
      rw [sz_neg hm] at hsz hmk
      rw [size_mk] at hsz
      simp only [List.length_cons] at hsz
      have P := pts m n h0 hn (by omega)
      have h1 := fun W hW => qvalid_no ⟨(45 :: pointL (Lib.decDigits m) n).toArray⟩ (by
        rw [mk_list]
        exact vldQ_no46 (.tail _ (point_46 _ _)) (by
          intro h
          rcases List.mem_cons.1 h with h | h
          · exact absurd h (by decide)
          · exact point_no47 m n h)) (by rw [size_mk, List.length_cons, point_len]; omega) W hW
      have h2 := fun W => calls_same (cut_neg (pointL (Lib.decDigits m) n) W)
      have h6 := P.trim
      rw [dec_trim (by omega)] at h6
      have e8 : (⟨(45 :: Lib.decDigits m).toArray⟩ : ByteArray) = ⟨#[45]⟩ ++ ⟨(Lib.decDigits m).toArray⟩ := by
        apply ByteArray.ext
        apply Array.ext'
        simp
      rw [e8] at hmk
      exact parse_neg_raw _ _ _ _ ⟨(Lib.decDigits m).toArray⟩ _ _ 0 (nil_no (by have := dec_ne_nil m; intro h; exact this (List.length_eq_zero_iff.1 h))) P.hw P.hp (by rw [size_mk]; omega) w hl h1 h2 P.cut P.whole P.places h6 P.power hmk
    · obtain ⟨m, rfl⟩ : ∃ m : Nat, z = (m : Int) := ⟨z.natAbs, by omega⟩
      rw [if_neg hs, Int.natAbs_natCast]
      rw [sz_nat] at hsz hmk
      unfold Sn at hsz hmk
      rw [size_mk] at hsz
      have P := pts m n h0 hn (by omega)
      have h1 := fun W hW => qvalid_no (pointB (Lib.decDigits m) n) (vldQ_no46 (point_46 _ _) (point_no47 m n)) (by unfold pointB; rw [size_mk, point_len]; omega) W hW
      have h2 := fun W => calls_same (cut_not (pointB (Lib.decDigits m) n) (by
        intro t ht
        obtain ⟨c, u, hc, h45⟩ := head_first m n
        have ht2 : pointL (Lib.decDigits m) n = 45 :: t := ht
        rw [point_parts, hc] at ht2
        injection ht2 with e1 e2
        exact h45 e1) W)
      have h6 := P.trim
      rcases Nat.eq_zero_or_pos m with hm | hm
      · subst hm
        rw [dec_trim0] at h6
        rw [show Sq (Rat.divInt ((0 : Nat) : Int) ((10 ^ n : Nat) : Int)) = ⟨#[48]⟩ by rw [show ((0 : Nat) : Int) = 0 from rfl, Rat.zero_divInt, q_0]]
        exact parse_zero_raw _ _ _ _ ⟨#[]⟩ P.hw P.hp (by decide) w hl h1 h2 P.cut P.whole P.places h6
      · rw [dec_trim hm] at h6
        exact parse_pos_raw _ _ _ _ ⟨(Lib.decDigits m).toArray⟩ _ _ 0 (nil_no (by have := dec_ne_nil m; intro h; exact this (List.length_eq_zero_iff.1 h))) P.hw P.hp (by rw [size_mk]; omega) w hl h1 h2 P.cut P.whole P.places h6 P.power hmk

end Go.Proofs.YtlagimghlngdgaaGreatDoor
