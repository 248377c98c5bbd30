/- garboardlaw03.RationalParts returns true: walks. -/
import Derived.Test.YtlagimghlngdgaaGreatDoorMqn
namespace Go.Proofs.YtlagimghlngdgaaGreatDoor
open Go.RowKit Go.Gb

theorem nGCDV (x y g : Nat) (hg : Nat.gcd x y = g) (hx : Fit x) (hy : Fit y) (w : World) (htab : Tb w) :
    Calls Tryz.prog 24 #[.string (Sn x), .string (Sn y)] w fun e w' => e = .returned (.tuple #[.string (Sn g), .int .i64 0]) ∧ Below w.heap.size w w' := by
  have sx := hx.size
  have sy := hy.size
  have h := GCD_yes (Sn x) (Sn y) (sn_vld x) (sn_vld y) (by omega) (by omega) (by
    rw [sn_dval, sn_dval]
    exact Common_any x y (Nat.le_trans (sm_digs hx (by decide)) (by decide)) (Nat.le_trans (sm_digs hy (by decide)) (by decide))) w htab
  rw [sn_dval, sn_dval, hg] at h
  exact h
theorem part_gcd (x : Rat) (hx : FitQ x) (w : World) (hl : La w) :
    Calls Tryz.prog 24 #[.string (Sn x.num.natAbs), .string (Sz (x.den : Int))] w fun e w' => e = .returned (.tuple #[.string ⟨#[49]⟩, .int .i64 0]) ∧ Below w.heap.size w w' := by
  have h := nGCDV x.num.natAbs x.den 1 x.reduced hx.num hx.den w hl.tb
  rwa [show Sn 1 = ⟨#[49]⟩ by decide +kernel, ← sz_nat] at h
theorem part_self (x : Rat) (hx : FitQ x) (w : World) (hl : La w) :
    Calls Tryz.prog 25 #[.string (Sz x.num), .string (Sz (x.den : Int))] w fun e w' => e = .returned (.tuple #[.string (Sq x), .int .i64 0]) ∧ Below w.heap.size w w' := by
  have h := qMake x.num (x.den : Int) (by have := x.den_nz; omega) hx.numL hx.denL w hl
  rwa [Rat.num_divInt_den] at h
theorem part_make (a b : Int) (q : Rat) (hq : Rat.divInt a b = q) (hb : b ≠ 0) (ha : FitL a) (fb : FitL b) (w : World) (hl : La w) :
    Calls Tryz.prog 25 #[.string (Sz a), .string (Sz b)] w fun e w' => e = .returned (.tuple #[.string (Sq q), .int .i64 0]) ∧ Below w.heap.size w w' := by
  subst hq; exact qMake a b hb ha fb w hl
theorem part_zero (a b : Int) (hb : b = 0) (ha : FitL a) (w : World) (hl : La w) :
    Calls Tryz.prog 25 #[.string (Sz a), .string (Sz b)] w fun e w' => e = .returned (.tuple #[.string ⟨#[]⟩, .int .i64 16]) ∧ Below w.heap.size w w' := by
  subst hb; rw [sz_zero]; exact qMake_zero a ha w hl
theorem part_bad1 (a b : ByteArray) (h : vldZ a.data.toList = false) (ha : a.size ≤ 900) (w : World) (hl : La w) :
    Calls Tryz.prog 25 #[.string a, .string b] w fun e w' => e = .returned (.tuple #[.string ⟨#[]⟩, .int .i64 1]) ∧ Below w.heap.size w w' :=
  make_bad1 a b w hl (fun W _ => zValid_no a h (by unfold maxLen; omega) W)
theorem part_bad2 (x : Int) (b : ByteArray) (h : vldZ b.data.toList = false) (hx : FitL x) (hb : b.size ≤ 900) (w : World) (hl : La w) :
    Calls Tryz.prog 25 #[.string (Sz x), .string b] w fun e w' => e = .returned (.tuple #[.string ⟨#[]⟩, .int .i64 1]) ∧ Below w.heap.size w w' :=
  make_bad2 (Sz x) b w hl (fun W hW => zValid_yes x hx.z W hW.zz) (fun W _ => zValid_no b h (by unfold maxLen; omega) W)
theorem part_mulno (x : Int) (b : ByteArray) (h : vldZ b.data.toList = false) (hx : (Sz x).size ≤ 60) (hb : b.size ≤ 900) (w : World) (hl : La w) :
    Calls Tryz.prog 26 #[.string (Sz x), .string b] w fun e w' => e = .returned (.tuple #[.string ⟨#[]⟩, .int .i64 1]) ∧ Below w.heap.size w w' :=
  zMul_no (Sz x) b (by rw [h, Bool.and_false]) (by omega) (by omega) w hl
theorem fl60 {x : Int} (h : (Sz x).size ≤ 60) : FitL x := FitL.of (smz_of' h) (by decide)
theorem fl120 {x y : Int} (h : (Sz x).size ≤ 60) (k : (Sz y).size ≤ 60) : FitL (x * y) := FitL.of (k := 120) (by rw [Int.natAbs_mul]; exact (smz_of' h).mul (smz_of' k)) (by decide)

set_option maxHeartbeats 8000000 in
set_option maxRecDepth 100000 in
theorem qparts_long (a b c d : ByteArray) (hab : 60 < a.size ∨ 60 < b.size ∨ 60 < c.size ∨ 60 < d.size) (w : World) (hl : La w) :
    Calls Tryz.prog 5 #[.string a, .string b, .string c, .string d] w fun e w' => e = .returned (.bool true) ∧ Below w.heap.size w w' := by
  have HT := Lib.hid hl
  clear hl
  have HL := Lib.hid hab
  clear hab
  go_enter Tryz.func5, Tryz.ntmps5
  go_wp2_with fail
  refine (qawake _ HT.out).mono ?_
  rintro e w1 ⟨rfl, hb1⟩
  have HB1 := Lib.hid (hb1.alloc hb1.size (.cells #[.string a, .string b, .string c, .string d] 22))
  have hc := strs_cells4 w1 a b c d
  have HLo := Lib.hid (long4_yes w1.heap.size a b c d _ HL.out hc)
  clear hb1 hc
  go_wp2_with fail
  refine HLo.out.mono ?_
  rintro e w' ⟨rfl, rfl⟩
  go_wp2_with fail
  refine (qawake _ (HT.out.on HB1.out)).mono ?_
  rintro e w2 ⟨rfl, hb⟩
  have HB2 := Lib.hid (HB1.out.trans (hb.mono HB1.out.size))
  clear hb
  go_wp2
  go_ret
  exact ⟨rfl, HB2.out⟩

set_option maxHeartbeats 8000000 in
set_option maxRecDepth 100000 in
theorem qparts_y1 (x : Rat) (sa : (Sq x).size ≤ 60) (n : ByteArray) (hn : n.size ≤ 60) (d : ByteArray) (hd : d.size ≤ 60) (k : ByteArray) (hk : k.size ≤ 60) (hv : vldZ n.data.toList = false) (w : World) (hl : La w) :
    Calls Tryz.prog 5 #[.string (Sq x), .string n, .string d, .string k] w fun e w' => e = .returned (.bool true) ∧ Below w.heap.size w w' := by
  have HT := Lib.hid hl
  clear hl
  have FX := Lib.hid (show FitQ x from (smq_of sa (by decide)).fit (by decide))
  have SA := Lib.hid sa
  clear sa
  have Hln := Lib.hid hn
  have Hmn := Lib.hid (show n.size ≤ 900 by omega)
  clear hn
  have Hld := Lib.hid hd
  have Hmd := Lib.hid (show d.size ≤ 900 by omega)
  clear hd
  have Hlk := Lib.hid hk
  have Hmk := Lib.hid (show k.size ≤ 900 by omega)
  clear hk
  have HV := Lib.hid hv
  clear hv
  have W0 : IntKind.i64.wrap (0 + 0) = 0 := by decide
  go_enter Tryz.func5, Tryz.ntmps5
  go_wp2_with fail
  refine (qawake _ HT.out).mono ?_
  rintro e w1 ⟨rfl, hb1⟩
  have HB1 := Lib.hid (hb1.alloc hb1.size (.cells #[.string (Sq x), .string n, .string d, .string k] 22))
  have hc := strs_cells4 w1 (Sq x) n d k
  have HLo := Lib.hid (long4_no w1.heap.size (Sq x) n d k _ SA.out Hln.out Hld.out Hlk.out hc)
  clear hb1 hc
  go_wp2_with fail
  refine HLo.out.mono ?_
  rintro e w' ⟨rfl, rfl⟩
  go_wp2_with fail
  refine (qparts x FX.out _ (HT.out.on HB1.out)).mono ?_
  rintro e w2 ⟨rfl, hb⟩
  have HB2 := Lib.hid (HB1.out.trans (hb.mono HB1.out.size))
  clear hb
  go_wp2_with fail
  refine (qvalid_yes x FX.out _ (HT.out.on HB2.out)).mono ?_
  rintro e w3 ⟨rfl, hb⟩
  have HB3 := Lib.hid (HB2.out.trans (hb.mono HB2.out.size))
  clear hb
  go_wp2_with fail
  refine (zAbs x.num FX.out.num _ (HT.out.on HB3.out)).mono ?_
  rintro e w4 ⟨rfl, hb⟩
  have HB4 := Lib.hid (HB3.out.trans (hb.mono HB3.out.size))
  clear hb
  go_wp2_with fail
  refine (part_gcd x FX.out _ (HT.out.on HB4.out)).mono ?_
  rintro e w5 ⟨rfl, hb⟩
  have HB5 := Lib.hid (HB4.out.trans (hb.mono HB4.out.size))
  clear hb
  go_wp2_with fail
  refine (part_self x FX.out _ (HT.out.on HB5.out)).mono ?_
  rintro e w6 ⟨rfl, hb⟩
  have HB6 := Lib.hid (HB5.out.trans (hb.mono HB5.out.size))
  clear hb
  go_wp2_with fail
  refine (part_bad1 n d HV.out Hmn.out _ (HT.out.on HB6.out)).mono ?_
  rintro e w7 ⟨rfl, hb⟩
  have HB7 := Lib.hid (HB6.out.trans (hb.mono HB6.out.size))
  clear hb
  go_wp2
  go_ret
  exact ⟨rfl, HB7.out⟩

set_option maxHeartbeats 8000000 in
set_option maxRecDepth 100000 in
theorem qparts_y2 (x : Rat) (sa : (Sq x).size ≤ 60) (n : Int) (sn : (Sz n).size ≤ 60) (d : ByteArray) (hd : d.size ≤ 60) (k : ByteArray) (hk : k.size ≤ 60) (hv : vldZ d.data.toList = false) (w : World) (hl : La w) :
    Calls Tryz.prog 5 #[.string (Sq x), .string (Sz n), .string d, .string k] w fun e w' => e = .returned (.bool true) ∧ Below w.heap.size w w' := by
  have HT := Lib.hid hl
  clear hl
  have FX := Lib.hid (show FitQ x from (smq_of sa (by decide)).fit (by decide))
  have SA := Lib.hid sa
  clear sa
  have Fn := Lib.hid (fl60 sn)
  have Sn := Lib.hid sn
  have Hld := Lib.hid hd
  have Hmd := Lib.hid (show d.size ≤ 900 by omega)
  clear hd
  have Hlk := Lib.hid hk
  have Hmk := Lib.hid (show k.size ≤ 900 by omega)
  clear hk
  have HV := Lib.hid hv
  clear hv
  have W0 : IntKind.i64.wrap (0 + 0) = 0 := by decide
  clear sn
  go_enter Tryz.func5, Tryz.ntmps5
  go_wp2_with fail
  refine (qawake _ HT.out).mono ?_
  rintro e w1 ⟨rfl, hb1⟩
  have HB1 := Lib.hid (hb1.alloc hb1.size (.cells #[.string (Sq x), .string (Sz n), .string d, .string k] 22))
  have hc := strs_cells4 w1 (Sq x) (Sz n) d k
  have HLo := Lib.hid (long4_no w1.heap.size (Sq x) (Sz n) d k _ SA.out Sn.out Hld.out Hlk.out hc)
  clear hb1 hc
  go_wp2_with fail
  refine HLo.out.mono ?_
  rintro e w' ⟨rfl, rfl⟩
  go_wp2_with fail
  refine (qparts x FX.out _ (HT.out.on HB1.out)).mono ?_
  rintro e w2 ⟨rfl, hb⟩
  have HB2 := Lib.hid (HB1.out.trans (hb.mono HB1.out.size))
  clear hb
  go_wp2_with fail
  refine (qvalid_yes x FX.out _ (HT.out.on HB2.out)).mono ?_
  rintro e w3 ⟨rfl, hb⟩
  have HB3 := Lib.hid (HB2.out.trans (hb.mono HB2.out.size))
  clear hb
  go_wp2_with fail
  refine (zAbs x.num FX.out.num _ (HT.out.on HB3.out)).mono ?_
  rintro e w4 ⟨rfl, hb⟩
  have HB4 := Lib.hid (HB3.out.trans (hb.mono HB3.out.size))
  clear hb
  go_wp2_with fail
  refine (part_gcd x FX.out _ (HT.out.on HB4.out)).mono ?_
  rintro e w5 ⟨rfl, hb⟩
  have HB5 := Lib.hid (HB4.out.trans (hb.mono HB4.out.size))
  clear hb
  go_wp2_with fail
  refine (part_self x FX.out _ (HT.out.on HB5.out)).mono ?_
  rintro e w6 ⟨rfl, hb⟩
  have HB6 := Lib.hid (HB5.out.trans (hb.mono HB5.out.size))
  clear hb
  go_wp2_with fail
  refine (part_bad2 n d HV.out Fn.out Hmd.out _ (HT.out.on HB6.out)).mono ?_
  rintro e w7 ⟨rfl, hb⟩
  have HB7 := Lib.hid (HB6.out.trans (hb.mono HB6.out.size))
  clear hb
  go_wp2
  go_ret
  exact ⟨rfl, HB7.out⟩

set_option maxHeartbeats 8000000 in
set_option maxRecDepth 100000 in
theorem qparts_y3 (x : Rat) (sa : (Sq x).size ≤ 60) (n : Int) (sn : (Sz n).size ≤ 60) (d : Int) (sd : (Sz d).size ≤ 60) (k : ByteArray) (hk : k.size ≤ 60) (hd0 : d = 0) (w : World) (hl : La w) :
    Calls Tryz.prog 5 #[.string (Sq x), .string (Sz n), .string (Sz d), .string k] w fun e w' => e = .returned (.bool true) ∧ Below w.heap.size w w' := by
  have HT := Lib.hid hl
  clear hl
  have FX := Lib.hid (show FitQ x from (smq_of sa (by decide)).fit (by decide))
  have SA := Lib.hid sa
  clear sa
  have Fn := Lib.hid (fl60 sn)
  have Sn := Lib.hid sn
  have Fd := Lib.hid (fl60 sd)
  have Sd := Lib.hid sd
  have Hlk := Lib.hid hk
  have Hmk := Lib.hid (show k.size ≤ 900 by omega)
  clear hk
  have D0 := Lib.hid hd0
  clear hd0
  have W0 : IntKind.i64.wrap (0 + 0) = 0 := by decide
  clear sn sd
  go_enter Tryz.func5, Tryz.ntmps5
  go_wp2_with fail
  refine (qawake _ HT.out).mono ?_
  rintro e w1 ⟨rfl, hb1⟩
  have HB1 := Lib.hid (hb1.alloc hb1.size (.cells #[.string (Sq x), .string (Sz n), .string (Sz d), .string k] 22))
  have hc := strs_cells4 w1 (Sq x) (Sz n) (Sz d) k
  have HLo := Lib.hid (long4_no w1.heap.size (Sq x) (Sz n) (Sz d) k _ SA.out Sn.out Sd.out Hlk.out hc)
  clear hb1 hc
  go_wp2_with fail
  refine HLo.out.mono ?_
  rintro e w' ⟨rfl, rfl⟩
  go_wp2_with fail
  refine (qparts x FX.out _ (HT.out.on HB1.out)).mono ?_
  rintro e w2 ⟨rfl, hb⟩
  have HB2 := Lib.hid (HB1.out.trans (hb.mono HB1.out.size))
  clear hb
  go_wp2_with fail
  refine (qvalid_yes x FX.out _ (HT.out.on HB2.out)).mono ?_
  rintro e w3 ⟨rfl, hb⟩
  have HB3 := Lib.hid (HB2.out.trans (hb.mono HB2.out.size))
  clear hb
  go_wp2_with fail
  refine (zAbs x.num FX.out.num _ (HT.out.on HB3.out)).mono ?_
  rintro e w4 ⟨rfl, hb⟩
  have HB4 := Lib.hid (HB3.out.trans (hb.mono HB3.out.size))
  clear hb
  go_wp2_with fail
  refine (part_gcd x FX.out _ (HT.out.on HB4.out)).mono ?_
  rintro e w5 ⟨rfl, hb⟩
  have HB5 := Lib.hid (HB4.out.trans (hb.mono HB4.out.size))
  clear hb
  go_wp2_with fail
  refine (part_self x FX.out _ (HT.out.on HB5.out)).mono ?_
  rintro e w6 ⟨rfl, hb⟩
  have HB6 := Lib.hid (HB5.out.trans (hb.mono HB5.out.size))
  clear hb
  go_wp2_with fail
  refine (part_zero n d D0.out Fn.out _ (HT.out.on HB6.out)).mono ?_
  rintro e w7 ⟨rfl, hb⟩
  have HB7 := Lib.hid (HB6.out.trans (hb.mono HB6.out.size))
  clear hb
  go_wp2
  go_ret
  exact ⟨rfl, HB7.out⟩

set_option maxHeartbeats 8000000 in
set_option maxRecDepth 100000 in
theorem qparts_y4 (x : Rat) (sa : (Sq x).size ≤ 60) (n : Int) (sn : (Sz n).size ≤ 60) (d : Int) (sd : (Sz d).size ≤ 60) (k : ByteArray) (hk : k.size ≤ 60) (hv : vldZ k.data.toList = false) (hd0 : d ≠ 0) (w : World) (hl : La w) :
    Calls Tryz.prog 5 #[.string (Sq x), .string (Sz n), .string (Sz d), .string k] w fun e w' => e = .returned (.bool true) ∧ Below w.heap.size w w' := by
  have HT := Lib.hid hl
  clear hl
  have FX := Lib.hid (show FitQ x from (smq_of sa (by decide)).fit (by decide))
  have SA := Lib.hid sa
  clear sa
  have Fn := Lib.hid (fl60 sn)
  have Sn := Lib.hid sn
  have Fd := Lib.hid (fl60 sd)
  have Sd := Lib.hid sd
  have Hlk := Lib.hid hk
  have Hmk := Lib.hid (show k.size ≤ 900 by omega)
  clear hk
  have HV := Lib.hid hv
  clear hv
  obtain ⟨q, hq⟩ : ∃ q, Rat.divInt n d = q := ⟨_, rfl⟩
  have Q0 := Lib.hid hq
  have FQ := Lib.hid (show FitQ q by rw [← hq]; exact (smq_divInt hd0 (smz_of' sn) (smz_of' sd)).fit (by decide))
  have bk : ((Sq q).toList == (Sq q).toList) = true := by simp
  have D0 := Lib.hid hd0
  clear hd0 hq sn sd bk
  have W0 : IntKind.i64.wrap (0 + 0) = 0 := by decide
  go_enter Tryz.func5, Tryz.ntmps5
  go_wp2_with fail
  refine (qawake _ HT.out).mono ?_
  rintro e w1 ⟨rfl, hb1⟩
  have HB1 := Lib.hid (hb1.alloc hb1.size (.cells #[.string (Sq x), .string (Sz n), .string (Sz d), .string k] 22))
  have hc := strs_cells4 w1 (Sq x) (Sz n) (Sz d) k
  have HLo := Lib.hid (long4_no w1.heap.size (Sq x) (Sz n) (Sz d) k _ SA.out Sn.out Sd.out Hlk.out hc)
  clear hb1 hc
  go_wp2_with fail
  refine HLo.out.mono ?_
  rintro e w' ⟨rfl, rfl⟩
  go_wp2_with fail
  refine (qparts x FX.out _ (HT.out.on HB1.out)).mono ?_
  rintro e w2 ⟨rfl, hb⟩
  have HB2 := Lib.hid (HB1.out.trans (hb.mono HB1.out.size))
  clear hb
  go_wp2_with fail
  refine (qvalid_yes x FX.out _ (HT.out.on HB2.out)).mono ?_
  rintro e w3 ⟨rfl, hb⟩
  have HB3 := Lib.hid (HB2.out.trans (hb.mono HB2.out.size))
  clear hb
  go_wp2_with fail
  refine (zAbs x.num FX.out.num _ (HT.out.on HB3.out)).mono ?_
  rintro e w4 ⟨rfl, hb⟩
  have HB4 := Lib.hid (HB3.out.trans (hb.mono HB3.out.size))
  clear hb
  go_wp2_with fail
  refine (part_gcd x FX.out _ (HT.out.on HB4.out)).mono ?_
  rintro e w5 ⟨rfl, hb⟩
  have HB5 := Lib.hid (HB4.out.trans (hb.mono HB4.out.size))
  clear hb
  go_wp2_with fail
  refine (part_self x FX.out _ (HT.out.on HB5.out)).mono ?_
  rintro e w6 ⟨rfl, hb⟩
  have HB6 := Lib.hid (HB5.out.trans (hb.mono HB5.out.size))
  clear hb
  go_wp2_with fail
  refine (part_make n d q Q0.out D0.out Fn.out Fd.out _ (HT.out.on HB6.out)).mono ?_
  rintro e w7 ⟨rfl, hb⟩
  have HB7 := Lib.hid (HB6.out.trans (hb.mono HB6.out.size))
  clear hb
  go_wp2_with fail
  refine (part_mulno n k HV.out Sn.out Hmk.out _ (HT.out.on HB7.out)).mono ?_
  rintro e w8 ⟨rfl, hb⟩
  have HB8 := Lib.hid (HB7.out.trans (hb.mono HB7.out.size))
  clear hb
  go_wp2_with fail
  refine (part_mulno d k HV.out Sd.out Hmk.out _ (HT.out.on HB8.out)).mono ?_
  rintro e w9 ⟨rfl, hb⟩
  have HB9 := Lib.hid (HB8.out.trans (hb.mono HB8.out.size))
  clear hb
  go_wp2_with fail
  refine (qvalid_yes q FQ.out _ (HT.out.on HB9.out)).mono ?_
  rintro e w10 ⟨rfl, hb⟩
  have HB10 := Lib.hid (HB9.out.trans (hb.mono HB9.out.size))
  clear hb
  go_wp2
  go_ret
  exact ⟨rfl, HB10.out⟩

set_option maxHeartbeats 8000000 in
set_option maxRecDepth 100000 in
theorem qparts_y5 (x : Rat) (sa : (Sq x).size ≤ 60) (n : Int) (sn : (Sz n).size ≤ 60) (d : Int) (sd : (Sz d).size ≤ 60) (k : Int) (sk : (Sz k).size ≤ 60) (hd0 : d ≠ 0) (hk0 : k = 0) (w : World) (hl : La w) :
    Calls Tryz.prog 5 #[.string (Sq x), .string (Sz n), .string (Sz d), .string (Sz k)] w fun e w' => e = .returned (.bool true) ∧ Below w.heap.size w w' := by
  have HT := Lib.hid hl
  clear hl
  have FX := Lib.hid (show FitQ x from (smq_of sa (by decide)).fit (by decide))
  have SA := Lib.hid sa
  clear sa
  have Fn := Lib.hid (fl60 sn)
  have Sn := Lib.hid sn
  have Fd := Lib.hid (fl60 sd)
  have Sd := Lib.hid sd
  have Fk := Lib.hid (fl60 sk)
  have Sk := Lib.hid sk
  obtain ⟨q, hq⟩ : ∃ q, Rat.divInt n d = q := ⟨_, rfl⟩
  have Q0 := Lib.hid hq
  have FQ := Lib.hid (show FitQ q by rw [← hq]; exact (smq_divInt hd0 (smz_of' sn) (smz_of' sd)).fit (by decide))
  have bk : ((Sz k).toList == [48]) = true := by rw [hk0, sz_zero, toList_data]; rfl
  have U := Lib.hid (show n * k = 0 by rw [hk0, Int.mul_zero])
  have V := Lib.hid (show d * k = 0 by rw [hk0, Int.mul_zero])
  have D0 := Lib.hid hd0
  have G0 := Lib.hid (show FitZ 0 from fl0.z)
  clear hd0 hk0 hq sn sd sk
  have W0 : IntKind.i64.wrap (0 + 0) = 0 := by decide
  go_enter Tryz.func5, Tryz.ntmps5
  go_wp2_with fail
  refine (qawake _ HT.out).mono ?_
  rintro e w1 ⟨rfl, hb1⟩
  have HB1 := Lib.hid (hb1.alloc hb1.size (.cells #[.string (Sq x), .string (Sz n), .string (Sz d), .string (Sz k)] 22))
  have hc := strs_cells4 w1 (Sq x) (Sz n) (Sz d) (Sz k)
  have HLo := Lib.hid (long4_no w1.heap.size (Sq x) (Sz n) (Sz d) (Sz k) _ SA.out Sn.out Sd.out Sk.out hc)
  clear hb1 hc
  go_wp2_with fail
  refine HLo.out.mono ?_
  rintro e w' ⟨rfl, rfl⟩
  go_wp2_with fail
  refine (qparts x FX.out _ (HT.out.on HB1.out)).mono ?_
  rintro e w2 ⟨rfl, hb⟩
  have HB2 := Lib.hid (HB1.out.trans (hb.mono HB1.out.size))
  clear hb
  go_wp2_with fail
  refine (qvalid_yes x FX.out _ (HT.out.on HB2.out)).mono ?_
  rintro e w3 ⟨rfl, hb⟩
  have HB3 := Lib.hid (HB2.out.trans (hb.mono HB2.out.size))
  clear hb
  go_wp2_with fail
  refine (zAbs x.num FX.out.num _ (HT.out.on HB3.out)).mono ?_
  rintro e w4 ⟨rfl, hb⟩
  have HB4 := Lib.hid (HB3.out.trans (hb.mono HB3.out.size))
  clear hb
  go_wp2_with fail
  refine (part_gcd x FX.out _ (HT.out.on HB4.out)).mono ?_
  rintro e w5 ⟨rfl, hb⟩
  have HB5 := Lib.hid (HB4.out.trans (hb.mono HB4.out.size))
  clear hb
  go_wp2_with fail
  refine (part_self x FX.out _ (HT.out.on HB5.out)).mono ?_
  rintro e w6 ⟨rfl, hb⟩
  have HB6 := Lib.hid (HB5.out.trans (hb.mono HB5.out.size))
  clear hb
  go_wp2_with fail
  refine (part_make n d q Q0.out D0.out Fn.out Fd.out _ (HT.out.on HB6.out)).mono ?_
  rintro e w7 ⟨rfl, hb⟩
  have HB7 := Lib.hid (HB6.out.trans (hb.mono HB6.out.size))
  clear hb
  go_wp2_with fail
  refine (zMul n k 0 U.out Fn.out.z Fk.out.z G0.out _ (HT.out.on HB7.out)).mono ?_
  rintro e w8 ⟨rfl, hb⟩
  have HB8 := Lib.hid (HB7.out.trans (hb.mono HB7.out.size))
  clear hb
  go_wp2_with fail
  refine (zMul d k 0 V.out Fd.out.z Fk.out.z G0.out _ (HT.out.on HB8.out)).mono ?_
  rintro e w9 ⟨rfl, hb⟩
  have HB9 := Lib.hid (HB8.out.trans (hb.mono HB8.out.size))
  clear hb
  go_wp2_with fail
  refine (qvalid_yes q FQ.out _ (HT.out.on HB9.out)).mono ?_
  rintro e w10 ⟨rfl, hb⟩
  have HB10 := Lib.hid (HB9.out.trans (hb.mono HB9.out.size))
  clear hb
  go_wp2
  go_ret
  exact ⟨rfl, HB10.out⟩

set_option maxHeartbeats 8000000 in
set_option maxRecDepth 100000 in
theorem qparts_y6 (x : Rat) (sa : (Sq x).size ≤ 60) (n : Int) (sn : (Sz n).size ≤ 60) (d : Int) (sd : (Sz d).size ≤ 60) (k : Int) (sk : (Sz k).size ≤ 60) (hd0 : d ≠ 0) (hk0 : k ≠ 0) (w : World) (hl : La w) :
    Calls Tryz.prog 5 #[.string (Sq x), .string (Sz n), .string (Sz d), .string (Sz k)] w fun e w' => e = .returned (.bool true) ∧ Below w.heap.size w w' := by
  have HT := Lib.hid hl
  clear hl
  have FX := Lib.hid (show FitQ x from (smq_of sa (by decide)).fit (by decide))
  have SA := Lib.hid sa
  clear sa
  have Fn := Lib.hid (fl60 sn)
  have Sn := Lib.hid sn
  have Fd := Lib.hid (fl60 sd)
  have Sd := Lib.hid sd
  have Fk := Lib.hid (fl60 sk)
  have Sk := Lib.hid sk
  obtain ⟨q, hq⟩ : ∃ q, Rat.divInt n d = q := ⟨_, rfl⟩
  have Q0 := Lib.hid hq
  have FQ := Lib.hid (show FitQ q by rw [← hq]; exact (smq_divInt hd0 (smz_of' sn) (smz_of' sd)).fit (by decide))
  have bk : ((Sz k).toList == [48]) = false := by have h := sz_neq0 hk0; first | exact h | rwa [toList_data] at h
  obtain ⟨u, hu⟩ : ∃ u, n * k = u := ⟨_, rfl⟩
  obtain ⟨v, hv⟩ : ∃ v, d * k = v := ⟨_, rfl⟩
  have Fu := Lib.hid (show FitL u from hu ▸ fl120 sn sk)
  have Fv := Lib.hid (show FitL v from hv ▸ fl120 sd sk)
  have V0 := Lib.hid (show v ≠ 0 from hv ▸ Int.mul_ne_zero hd0 hk0)
  have Q1 := Lib.hid (show Rat.divInt u v = q by rw [← hu, ← hv, Rat.divInt_mul_right hk0, hq])
  have U := Lib.hid hu
  have V := Lib.hid hv
  have D0 := Lib.hid hd0
  clear hu hv hd0 hk0 hq sn sd sk
  have W0 : IntKind.i64.wrap (0 + 0) = 0 := by decide
  go_enter Tryz.func5, Tryz.ntmps5
  go_wp2_with fail
  refine (qawake _ HT.out).mono ?_
  rintro e w1 ⟨rfl, hb1⟩
  have HB1 := Lib.hid (hb1.alloc hb1.size (.cells #[.string (Sq x), .string (Sz n), .string (Sz d), .string (Sz k)] 22))
  have hc := strs_cells4 w1 (Sq x) (Sz n) (Sz d) (Sz k)
  have HLo := Lib.hid (long4_no w1.heap.size (Sq x) (Sz n) (Sz d) (Sz k) _ SA.out Sn.out Sd.out Sk.out hc)
  clear hb1 hc
  go_wp2_with fail
  refine HLo.out.mono ?_
  rintro e w' ⟨rfl, rfl⟩
  go_wp2_with fail
  refine (qparts x FX.out _ (HT.out.on HB1.out)).mono ?_
  rintro e w2 ⟨rfl, hb⟩
  have HB2 := Lib.hid (HB1.out.trans (hb.mono HB1.out.size))
  clear hb
  go_wp2_with fail
  refine (qvalid_yes x FX.out _ (HT.out.on HB2.out)).mono ?_
  rintro e w3 ⟨rfl, hb⟩
  have HB3 := Lib.hid (HB2.out.trans (hb.mono HB2.out.size))
  clear hb
  go_wp2_with fail
  refine (zAbs x.num FX.out.num _ (HT.out.on HB3.out)).mono ?_
  rintro e w4 ⟨rfl, hb⟩
  have HB4 := Lib.hid (HB3.out.trans (hb.mono HB3.out.size))
  clear hb
  go_wp2_with fail
  refine (part_gcd x FX.out _ (HT.out.on HB4.out)).mono ?_
  rintro e w5 ⟨rfl, hb⟩
  have HB5 := Lib.hid (HB4.out.trans (hb.mono HB4.out.size))
  clear hb
  go_wp2_with fail
  refine (part_self x FX.out _ (HT.out.on HB5.out)).mono ?_
  rintro e w6 ⟨rfl, hb⟩
  have HB6 := Lib.hid (HB5.out.trans (hb.mono HB5.out.size))
  clear hb
  go_wp2_with fail
  refine (part_make n d q Q0.out D0.out Fn.out Fd.out _ (HT.out.on HB6.out)).mono ?_
  rintro e w7 ⟨rfl, hb⟩
  have HB7 := Lib.hid (HB6.out.trans (hb.mono HB6.out.size))
  clear hb
  go_wp2_with fail
  refine (zMul n k u U.out Fn.out.z Fk.out.z Fu.out.z _ (HT.out.on HB7.out)).mono ?_
  rintro e w8 ⟨rfl, hb⟩
  have HB8 := Lib.hid (HB7.out.trans (hb.mono HB7.out.size))
  clear hb
  go_wp2_with fail
  refine (zMul d k v V.out Fd.out.z Fk.out.z Fv.out.z _ (HT.out.on HB8.out)).mono ?_
  rintro e w9 ⟨rfl, hb⟩
  have HB9 := Lib.hid (HB8.out.trans (hb.mono HB8.out.size))
  clear hb
  go_wp2_with fail
  refine (part_make u v q Q1.out V0.out Fu.out Fv.out _ (HT.out.on HB9.out)).mono ?_
  rintro e w10 ⟨rfl, hb⟩
  have HB10 := Lib.hid (HB9.out.trans (hb.mono HB9.out.size))
  clear hb
  go_wp2_with fail
  refine (qvalid_yes q FQ.out _ (HT.out.on HB10.out)).mono ?_
  rintro e w11 ⟨rfl, hb⟩
  have HB11 := Lib.hid (HB10.out.trans (hb.mono HB10.out.size))
  clear hb
  go_wp2
  go_ret
  exact ⟨rfl, HB11.out⟩

set_option maxHeartbeats 8000000 in
set_option maxRecDepth 100000 in
theorem qparts_n1 (a : ByteArray) (ha : a.size ≤ 60) (va : vldQ a.data.toList = false) (n : ByteArray) (hn : n.size ≤ 60) (d : ByteArray) (hd : d.size ≤ 60) (k : ByteArray) (hk : k.size ≤ 60) (hv : vldZ n.data.toList = false) (w : World) (hl : La w) :
    Calls Tryz.prog 5 #[.string a, .string n, .string d, .string k] w fun e w' => e = .returned (.bool true) ∧ Below w.heap.size w w' := by
  have HT := Lib.hid hl
  clear hl
  have Hla := Lib.hid ha
  have Hma := Lib.hid (show a.size ≤ 900 by omega)
  clear ha
  have VA := Lib.hid va
  clear va
  have Hln := Lib.hid hn
  have Hmn := Lib.hid (show n.size ≤ 900 by omega)
  clear hn
  have Hld := Lib.hid hd
  have Hmd := Lib.hid (show d.size ≤ 900 by omega)
  clear hd
  have Hlk := Lib.hid hk
  have Hmk := Lib.hid (show k.size ≤ 900 by omega)
  clear hk
  have HV := Lib.hid hv
  clear hv
  have W0 : IntKind.i64.wrap (0 + 0) = 0 := by decide
  go_enter Tryz.func5, Tryz.ntmps5
  go_wp2_with fail
  refine (qawake _ HT.out).mono ?_
  rintro e w1 ⟨rfl, hb1⟩
  have HB1 := Lib.hid (hb1.alloc hb1.size (.cells #[.string a, .string n, .string d, .string k] 22))
  have hc := strs_cells4 w1 a n d k
  have HLo := Lib.hid (long4_no w1.heap.size a n d k _ Hla.out Hln.out Hld.out Hlk.out hc)
  clear hb1 hc
  go_wp2_with fail
  refine HLo.out.mono ?_
  rintro e w' ⟨rfl, rfl⟩
  go_wp2_with fail
  refine (qparts_no a VA.out Hma.out _ (HT.out.on HB1.out)).mono ?_
  rintro e w2 ⟨rfl, hb⟩
  have HB2 := Lib.hid (HB1.out.trans (hb.mono HB1.out.size))
  clear hb
  go_wp2_with fail
  refine (qvalid_no a VA.out Hma.out _ (HT.out.on HB2.out)).mono ?_
  rintro e w3 ⟨rfl, hb⟩
  have HB3 := Lib.hid (HB2.out.trans (hb.mono HB2.out.size))
  clear hb
  go_wp2_with fail
  refine (part_bad1 n d HV.out Hmn.out _ (HT.out.on HB3.out)).mono ?_
  rintro e w4 ⟨rfl, hb⟩
  have HB4 := Lib.hid (HB3.out.trans (hb.mono HB3.out.size))
  clear hb
  go_wp2
  go_ret
  exact ⟨rfl, HB4.out⟩

set_option maxHeartbeats 8000000 in
set_option maxRecDepth 100000 in
theorem qparts_n2 (a : ByteArray) (ha : a.size ≤ 60) (va : vldQ a.data.toList = false) (n : Int) (sn : (Sz n).size ≤ 60) (d : ByteArray) (hd : d.size ≤ 60) (k : ByteArray) (hk : k.size ≤ 60) (hv : vldZ d.data.toList = false) (w : World) (hl : La w) :
    Calls Tryz.prog 5 #[.string a, .string (Sz n), .string d, .string k] w fun e w' => e = .returned (.bool true) ∧ Below w.heap.size w w' := by
  have HT := Lib.hid hl
  clear hl
  have Hla := Lib.hid ha
  have Hma := Lib.hid (show a.size ≤ 900 by omega)
  clear ha
  have VA := Lib.hid va
  clear va
  have Fn := Lib.hid (fl60 sn)
  have Sn := Lib.hid sn
  have Hld := Lib.hid hd
  have Hmd := Lib.hid (show d.size ≤ 900 by omega)
  clear hd
  have Hlk := Lib.hid hk
  have Hmk := Lib.hid (show k.size ≤ 900 by omega)
  clear hk
  have HV := Lib.hid hv
  clear hv
  have W0 : IntKind.i64.wrap (0 + 0) = 0 := by decide
  clear sn
  go_enter Tryz.func5, Tryz.ntmps5
  go_wp2_with fail
  refine (qawake _ HT.out).mono ?_
  rintro e w1 ⟨rfl, hb1⟩
  have HB1 := Lib.hid (hb1.alloc hb1.size (.cells #[.string a, .string (Sz n), .string d, .string k] 22))
  have hc := strs_cells4 w1 a (Sz n) d k
  have HLo := Lib.hid (long4_no w1.heap.size a (Sz n) d k _ Hla.out Sn.out Hld.out Hlk.out hc)
  clear hb1 hc
  go_wp2_with fail
  refine HLo.out.mono ?_
  rintro e w' ⟨rfl, rfl⟩
  go_wp2_with fail
  refine (qparts_no a VA.out Hma.out _ (HT.out.on HB1.out)).mono ?_
  rintro e w2 ⟨rfl, hb⟩
  have HB2 := Lib.hid (HB1.out.trans (hb.mono HB1.out.size))
  clear hb
  go_wp2_with fail
  refine (qvalid_no a VA.out Hma.out _ (HT.out.on HB2.out)).mono ?_
  rintro e w3 ⟨rfl, hb⟩
  have HB3 := Lib.hid (HB2.out.trans (hb.mono HB2.out.size))
  clear hb
  go_wp2_with fail
  refine (part_bad2 n d HV.out Fn.out Hmd.out _ (HT.out.on HB3.out)).mono ?_
  rintro e w4 ⟨rfl, hb⟩
  have HB4 := Lib.hid (HB3.out.trans (hb.mono HB3.out.size))
  clear hb
  go_wp2
  go_ret
  exact ⟨rfl, HB4.out⟩

set_option maxHeartbeats 8000000 in
set_option maxRecDepth 100000 in
theorem qparts_n3 (a : ByteArray) (ha : a.size ≤ 60) (va : vldQ a.data.toList = false) (n : Int) (sn : (Sz n).size ≤ 60) (d : Int) (sd : (Sz d).size ≤ 60) (k : ByteArray) (hk : k.size ≤ 60) (hd0 : d = 0) (w : World) (hl : La w) :
    Calls Tryz.prog 5 #[.string a, .string (Sz n), .string (Sz d), .string k] w fun e w' => e = .returned (.bool true) ∧ Below w.heap.size w w' := by
  have HT := Lib.hid hl
  clear hl
  have Hla := Lib.hid ha
  have Hma := Lib.hid (show a.size ≤ 900 by omega)
  clear ha
  have VA := Lib.hid va
  clear va
  have Fn := Lib.hid (fl60 sn)
  have Sn := Lib.hid sn
  have Fd := Lib.hid (fl60 sd)
  have Sd := Lib.hid sd
  have Hlk := Lib.hid hk
  have Hmk := Lib.hid (show k.size ≤ 900 by omega)
  clear hk
  have D0 := Lib.hid hd0
  clear hd0
  have W0 : IntKind.i64.wrap (0 + 0) = 0 := by decide
  clear sn sd
  go_enter Tryz.func5, Tryz.ntmps5
  go_wp2_with fail
  refine (qawake _ HT.out).mono ?_
  rintro e w1 ⟨rfl, hb1⟩
  have HB1 := Lib.hid (hb1.alloc hb1.size (.cells #[.string a, .string (Sz n), .string (Sz d), .string k] 22))
  have hc := strs_cells4 w1 a (Sz n) (Sz d) k
  have HLo := Lib.hid (long4_no w1.heap.size a (Sz n) (Sz d) k _ Hla.out Sn.out Sd.out Hlk.out hc)
  clear hb1 hc
  go_wp2_with fail
  refine HLo.out.mono ?_
  rintro e w' ⟨rfl, rfl⟩
  go_wp2_with fail
  refine (qparts_no a VA.out Hma.out _ (HT.out.on HB1.out)).mono ?_
  rintro e w2 ⟨rfl, hb⟩
  have HB2 := Lib.hid (HB1.out.trans (hb.mono HB1.out.size))
  clear hb
  go_wp2_with fail
  refine (qvalid_no a VA.out Hma.out _ (HT.out.on HB2.out)).mono ?_
  rintro e w3 ⟨rfl, hb⟩
  have HB3 := Lib.hid (HB2.out.trans (hb.mono HB2.out.size))
  clear hb
  go_wp2_with fail
  refine (part_zero n d D0.out Fn.out _ (HT.out.on HB3.out)).mono ?_
  rintro e w4 ⟨rfl, hb⟩
  have HB4 := Lib.hid (HB3.out.trans (hb.mono HB3.out.size))
  clear hb
  go_wp2
  go_ret
  exact ⟨rfl, HB4.out⟩

set_option maxHeartbeats 8000000 in
set_option maxRecDepth 100000 in
theorem qparts_n4 (a : ByteArray) (ha : a.size ≤ 60) (va : vldQ a.data.toList = false) (n : Int) (sn : (Sz n).size ≤ 60) (d : Int) (sd : (Sz d).size ≤ 60) (k : ByteArray) (hk : k.size ≤ 60) (hv : vldZ k.data.toList = false) (hd0 : d ≠ 0) (w : World) (hl : La w) :
    Calls Tryz.prog 5 #[.string a, .string (Sz n), .string (Sz d), .string k] w fun e w' => e = .returned (.bool true) ∧ Below w.heap.size w w' := by
  have HT := Lib.hid hl
  clear hl
  have Hla := Lib.hid ha
  have Hma := Lib.hid (show a.size ≤ 900 by omega)
  clear ha
  have VA := Lib.hid va
  clear va
  have Fn := Lib.hid (fl60 sn)
  have Sn := Lib.hid sn
  have Fd := Lib.hid (fl60 sd)
  have Sd := Lib.hid sd
  have Hlk := Lib.hid hk
  have Hmk := Lib.hid (show k.size ≤ 900 by omega)
  clear hk
  have HV := Lib.hid hv
  clear hv
  obtain ⟨q, hq⟩ : ∃ q, Rat.divInt n d = q := ⟨_, rfl⟩
  have Q0 := Lib.hid hq
  have FQ := Lib.hid (show FitQ q by rw [← hq]; exact (smq_divInt hd0 (smz_of' sn) (smz_of' sd)).fit (by decide))
  have bk : ((Sq q).toList == (Sq q).toList) = true := by simp
  have D0 := Lib.hid hd0
  clear hd0 hq sn sd bk
  have W0 : IntKind.i64.wrap (0 + 0) = 0 := by decide
  go_enter Tryz.func5, Tryz.ntmps5
  go_wp2_with fail
  refine (qawake _ HT.out).mono ?_
  rintro e w1 ⟨rfl, hb1⟩
  have HB1 := Lib.hid (hb1.alloc hb1.size (.cells #[.string a, .string (Sz n), .string (Sz d), .string k] 22))
  have hc := strs_cells4 w1 a (Sz n) (Sz d) k
  have HLo := Lib.hid (long4_no w1.heap.size a (Sz n) (Sz d) k _ Hla.out Sn.out Sd.out Hlk.out hc)
  clear hb1 hc
  go_wp2_with fail
  refine HLo.out.mono ?_
  rintro e w' ⟨rfl, rfl⟩
  go_wp2_with fail
  refine (qparts_no a VA.out Hma.out _ (HT.out.on HB1.out)).mono ?_
  rintro e w2 ⟨rfl, hb⟩
  have HB2 := Lib.hid (HB1.out.trans (hb.mono HB1.out.size))
  clear hb
  go_wp2_with fail
  refine (qvalid_no a VA.out Hma.out _ (HT.out.on HB2.out)).mono ?_
  rintro e w3 ⟨rfl, hb⟩
  have HB3 := Lib.hid (HB2.out.trans (hb.mono HB2.out.size))
  clear hb
  go_wp2_with fail
  refine (part_make n d q Q0.out D0.out Fn.out Fd.out _ (HT.out.on HB3.out)).mono ?_
  rintro e w4 ⟨rfl, hb⟩
  have HB4 := Lib.hid (HB3.out.trans (hb.mono HB3.out.size))
  clear hb
  go_wp2_with fail
  refine (part_mulno n k HV.out Sn.out Hmk.out _ (HT.out.on HB4.out)).mono ?_
  rintro e w5 ⟨rfl, hb⟩
  have HB5 := Lib.hid (HB4.out.trans (hb.mono HB4.out.size))
  clear hb
  go_wp2_with fail
  refine (part_mulno d k HV.out Sd.out Hmk.out _ (HT.out.on HB5.out)).mono ?_
  rintro e w6 ⟨rfl, hb⟩
  have HB6 := Lib.hid (HB5.out.trans (hb.mono HB5.out.size))
  clear hb
  go_wp2_with fail
  refine (qvalid_yes q FQ.out _ (HT.out.on HB6.out)).mono ?_
  rintro e w7 ⟨rfl, hb⟩
  have HB7 := Lib.hid (HB6.out.trans (hb.mono HB6.out.size))
  clear hb
  go_wp2
  go_ret
  exact ⟨rfl, HB7.out⟩

set_option maxHeartbeats 8000000 in
set_option maxRecDepth 100000 in
theorem qparts_n5 (a : ByteArray) (ha : a.size ≤ 60) (va : vldQ a.data.toList = false) (n : Int) (sn : (Sz n).size ≤ 60) (d : Int) (sd : (Sz d).size ≤ 60) (k : Int) (sk : (Sz k).size ≤ 60) (hd0 : d ≠ 0) (hk0 : k = 0) (w : World) (hl : La w) :
    Calls Tryz.prog 5 #[.string a, .string (Sz n), .string (Sz d), .string (Sz k)] w fun e w' => e = .returned (.bool true) ∧ Below w.heap.size w w' := by
  have HT := Lib.hid hl
  clear hl
  have Hla := Lib.hid ha
  have Hma := Lib.hid (show a.size ≤ 900 by omega)
  clear ha
  have VA := Lib.hid va
  clear va
  have Fn := Lib.hid (fl60 sn)
  have Sn := Lib.hid sn
  have Fd := Lib.hid (fl60 sd)
  have Sd := Lib.hid sd
  have Fk := Lib.hid (fl60 sk)
  have Sk := Lib.hid sk
  obtain ⟨q, hq⟩ : ∃ q, Rat.divInt n d = q := ⟨_, rfl⟩
  have Q0 := Lib.hid hq
  have FQ := Lib.hid (show FitQ q by rw [← hq]; exact (smq_divInt hd0 (smz_of' sn) (smz_of' sd)).fit (by decide))
  have bk : ((Sz k).toList == [48]) = true := by rw [hk0, sz_zero, toList_data]; rfl
  have U := Lib.hid (show n * k = 0 by rw [hk0, Int.mul_zero])
  have V := Lib.hid (show d * k = 0 by rw [hk0, Int.mul_zero])
  have D0 := Lib.hid hd0
  have G0 := Lib.hid (show FitZ 0 from fl0.z)
  clear hd0 hk0 hq sn sd sk
  have W0 : IntKind.i64.wrap (0 + 0) = 0 := by decide
  go_enter Tryz.func5, Tryz.ntmps5
  go_wp2_with fail
  refine (qawake _ HT.out).mono ?_
  rintro e w1 ⟨rfl, hb1⟩
  have HB1 := Lib.hid (hb1.alloc hb1.size (.cells #[.string a, .string (Sz n), .string (Sz d), .string (Sz k)] 22))
  have hc := strs_cells4 w1 a (Sz n) (Sz d) (Sz k)
  have HLo := Lib.hid (long4_no w1.heap.size a (Sz n) (Sz d) (Sz k) _ Hla.out Sn.out Sd.out Sk.out hc)
  clear hb1 hc
  go_wp2_with fail
  refine HLo.out.mono ?_
  rintro e w' ⟨rfl, rfl⟩
  go_wp2_with fail
  refine (qparts_no a VA.out Hma.out _ (HT.out.on HB1.out)).mono ?_
  rintro e w2 ⟨rfl, hb⟩
  have HB2 := Lib.hid (HB1.out.trans (hb.mono HB1.out.size))
  clear hb
  go_wp2_with fail
  refine (qvalid_no a VA.out Hma.out _ (HT.out.on HB2.out)).mono ?_
  rintro e w3 ⟨rfl, hb⟩
  have HB3 := Lib.hid (HB2.out.trans (hb.mono HB2.out.size))
  clear hb
  go_wp2_with fail
  refine (part_make n d q Q0.out D0.out Fn.out Fd.out _ (HT.out.on HB3.out)).mono ?_
  rintro e w4 ⟨rfl, hb⟩
  have HB4 := Lib.hid (HB3.out.trans (hb.mono HB3.out.size))
  clear hb
  go_wp2_with fail
  refine (zMul n k 0 U.out Fn.out.z Fk.out.z G0.out _ (HT.out.on HB4.out)).mono ?_
  rintro e w5 ⟨rfl, hb⟩
  have HB5 := Lib.hid (HB4.out.trans (hb.mono HB4.out.size))
  clear hb
  go_wp2_with fail
  refine (zMul d k 0 V.out Fd.out.z Fk.out.z G0.out _ (HT.out.on HB5.out)).mono ?_
  rintro e w6 ⟨rfl, hb⟩
  have HB6 := Lib.hid (HB5.out.trans (hb.mono HB5.out.size))
  clear hb
  go_wp2_with fail
  refine (qvalid_yes q FQ.out _ (HT.out.on HB6.out)).mono ?_
  rintro e w7 ⟨rfl, hb⟩
  have HB7 := Lib.hid (HB6.out.trans (hb.mono HB6.out.size))
  clear hb
  go_wp2
  go_ret
  exact ⟨rfl, HB7.out⟩

set_option maxHeartbeats 8000000 in
set_option maxRecDepth 100000 in
theorem qparts_n6 (a : ByteArray) (ha : a.size ≤ 60) (va : vldQ a.data.toList = false) (n : Int) (sn : (Sz n).size ≤ 60) (d : Int) (sd : (Sz d).size ≤ 60) (k : Int) (sk : (Sz k).size ≤ 60) (hd0 : d ≠ 0) (hk0 : k ≠ 0) (w : World) (hl : La w) :
    Calls Tryz.prog 5 #[.string a, .string (Sz n), .string (Sz d), .string (Sz k)] w fun e w' => e = .returned (.bool true) ∧ Below w.heap.size w w' := by
  have HT := Lib.hid hl
  clear hl
  have Hla := Lib.hid ha
  have Hma := Lib.hid (show a.size ≤ 900 by omega)
  clear ha
  have VA := Lib.hid va
  clear va
  have Fn := Lib.hid (fl60 sn)
  have Sn := Lib.hid sn
  have Fd := Lib.hid (fl60 sd)
  have Sd := Lib.hid sd
  have Fk := Lib.hid (fl60 sk)
  have Sk := Lib.hid sk
  obtain ⟨q, hq⟩ : ∃ q, Rat.divInt n d = q := ⟨_, rfl⟩
  have Q0 := Lib.hid hq
  have FQ := Lib.hid (show FitQ q by rw [← hq]; exact (smq_divInt hd0 (smz_of' sn) (smz_of' sd)).fit (by decide))
  have bk : ((Sz k).toList == [48]) = false := by have h := sz_neq0 hk0; first | exact h | rwa [toList_data] at h
  obtain ⟨u, hu⟩ : ∃ u, n * k = u := ⟨_, rfl⟩
  obtain ⟨v, hv⟩ : ∃ v, d * k = v := ⟨_, rfl⟩
  have Fu := Lib.hid (show FitL u from hu ▸ fl120 sn sk)
  have Fv := Lib.hid (show FitL v from hv ▸ fl120 sd sk)
  have V0 := Lib.hid (show v ≠ 0 from hv ▸ Int.mul_ne_zero hd0 hk0)
  have Q1 := Lib.hid (show Rat.divInt u v = q by rw [← hu, ← hv, Rat.divInt_mul_right hk0, hq])
  have U := Lib.hid hu
  have V := Lib.hid hv
  have D0 := Lib.hid hd0
  clear hu hv hd0 hk0 hq sn sd sk
  have W0 : IntKind.i64.wrap (0 + 0) = 0 := by decide
  go_enter Tryz.func5, Tryz.ntmps5
  go_wp2_with fail
  refine (qawake _ HT.out).mono ?_
  rintro e w1 ⟨rfl, hb1⟩
  have HB1 := Lib.hid (hb1.alloc hb1.size (.cells #[.string a, .string (Sz n), .string (Sz d), .string (Sz k)] 22))
  have hc := strs_cells4 w1 a (Sz n) (Sz d) (Sz k)
  have HLo := Lib.hid (long4_no w1.heap.size a (Sz n) (Sz d) (Sz k) _ Hla.out Sn.out Sd.out Sk.out hc)
  clear hb1 hc
  go_wp2_with fail
  refine HLo.out.mono ?_
  rintro e w' ⟨rfl, rfl⟩
  go_wp2_with fail
  refine (qparts_no a VA.out Hma.out _ (HT.out.on HB1.out)).mono ?_
  rintro e w2 ⟨rfl, hb⟩
  have HB2 := Lib.hid (HB1.out.trans (hb.mono HB1.out.size))
  clear hb
  go_wp2_with fail
  refine (qvalid_no a VA.out Hma.out _ (HT.out.on HB2.out)).mono ?_
  rintro e w3 ⟨rfl, hb⟩
  have HB3 := Lib.hid (HB2.out.trans (hb.mono HB2.out.size))
  clear hb
  go_wp2_with fail
  refine (part_make n d q Q0.out D0.out Fn.out Fd.out _ (HT.out.on HB3.out)).mono ?_
  rintro e w4 ⟨rfl, hb⟩
  have HB4 := Lib.hid (HB3.out.trans (hb.mono HB3.out.size))
  clear hb
  go_wp2_with fail
  refine (zMul n k u U.out Fn.out.z Fk.out.z Fu.out.z _ (HT.out.on HB4.out)).mono ?_
  rintro e w5 ⟨rfl, hb⟩
  have HB5 := Lib.hid (HB4.out.trans (hb.mono HB4.out.size))
  clear hb
  go_wp2_with fail
  refine (zMul d k v V.out Fd.out.z Fk.out.z Fv.out.z _ (HT.out.on HB5.out)).mono ?_
  rintro e w6 ⟨rfl, hb⟩
  have HB6 := Lib.hid (HB5.out.trans (hb.mono HB5.out.size))
  clear hb
  go_wp2_with fail
  refine (part_make u v q Q1.out V0.out Fu.out Fv.out _ (HT.out.on HB6.out)).mono ?_
  rintro e w7 ⟨rfl, hb⟩
  have HB7 := Lib.hid (HB6.out.trans (hb.mono HB6.out.size))
  clear hb
  go_wp2_with fail
  refine (qvalid_yes q FQ.out _ (HT.out.on HB7.out)).mono ?_
  rintro e w8 ⟨rfl, hb⟩
  have HB8 := Lib.hid (HB7.out.trans (hb.mono HB7.out.size))
  clear hb
  go_wp2
  go_ret
  exact ⟨rfl, HB8.out⟩

theorem qparts_y (x : Rat) (sa : (Sq x).size ≤ 60) (n d k : ByteArray) (hn : n.size ≤ 60) (hd : d.size ≤ 60) (hk : k.size ≤ 60) (w : World) (hl : La w) :
    Calls Tryz.prog 5 #[.string (Sq x), .string n, .string d, .string k] w fun e w' => e = .returned (.bool true) ∧ Below w.heap.size w w' := by
  cases vn : vldZ n.data.toList with
  | false => exact qparts_y1 x sa n hn d hd k hk vn w hl
  | true =>
    have en := sz_of vn
    generalize zval n.data.toList = n' at en
    subst en
    cases vd : vldZ d.data.toList with
    | false => exact qparts_y2 x sa n' hn d hd k hk vd w hl
    | true =>
      have ed := sz_of vd
      generalize zval d.data.toList = d' at ed
      subst ed
      by_cases hd0 : d' = 0
      · exact qparts_y3 x sa n' hn d' hd k hk hd0 w hl
      · cases vk : vldZ k.data.toList with
        | false => exact qparts_y4 x sa n' hn d' hd k hk vk hd0 w hl
        | true =>
          have ek := sz_of vk
          generalize zval k.data.toList = k' at ek
          subst ek
          by_cases hk0 : k' = 0
          · exact qparts_y5 x sa n' hn d' hd k' hk hd0 hk0 w hl
          · exact qparts_y6 x sa n' hn d' hd k' hk hd0 hk0 w hl

theorem qparts_n (a : ByteArray) (ha : a.size ≤ 60) (va : vldQ a.data.toList = false) (n d k : ByteArray) (hn : n.size ≤ 60) (hd : d.size ≤ 60) (hk : k.size ≤ 60) (w : World) (hl : La w) :
    Calls Tryz.prog 5 #[.string a, .string n, .string d, .string k] w fun e w' => e = .returned (.bool true) ∧ Below w.heap.size w w' := by
  cases vn : vldZ n.data.toList with
  | false => exact qparts_n1 a ha va n hn d hd k hk vn w hl
  | true =>
    have en := sz_of vn
    generalize zval n.data.toList = n' at en
    subst en
    cases vd : vldZ d.data.toList with
    | false => exact qparts_n2 a ha va n' hn d hd k hk vd w hl
    | true =>
      have ed := sz_of vd
      generalize zval d.data.toList = d' at ed
      subst ed
      by_cases hd0 : d' = 0
      · exact qparts_n3 a ha va n' hn d' hd k hk hd0 w hl
      · cases vk : vldZ k.data.toList with
        | false => exact qparts_n4 a ha va n' hn d' hd k hk vk hd0 w hl
        | true =>
          have ek := sz_of vk
          generalize zval k.data.toList = k' at ek
          subst ek
          by_cases hk0 : k' = 0
          · exact qparts_n5 a ha va n' hn d' hd k' hk hd0 hk0 w hl
          · exact qparts_n6 a ha va n' hn d' hd k' hk hd0 hk0 w hl

theorem qparts_any (a b c d : ByteArray) (w : World) (hl : La w) :
    Calls Tryz.prog 5 #[.string a, .string b, .string c, .string d] w fun e w' => e = .returned (.bool true) ∧ Below w.heap.size w w' := by
  by_cases hlo : 60 < a.size ∨ 60 < b.size ∨ 60 < c.size ∨ 60 < d.size
  · exact qparts_long a b c d hlo w hl
  · have ha : a.size ≤ 60 := by omega
    have hb : b.size ≤ 60 := by omega
    have hc : c.size ≤ 60 := by omega
    have hd : d.size ≤ 60 := by omega
    clear hlo
    cases va : vldQ a.data.toList with
    | false => exact qparts_n a ha va b c d hb hc hd w hl
    | true =>
      have ea := sq_of va
      generalize qval a.data.toList = x at ea
      subst ea
      exact qparts_y x ha b c d hb hc hd w hl

end Go.Proofs.YtlagimghlngdgaaGreatDoor
