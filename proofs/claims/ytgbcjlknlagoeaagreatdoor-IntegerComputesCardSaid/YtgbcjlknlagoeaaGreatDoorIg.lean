/- integer: Add, Sub, Mul, Compare, Sign, Abs, Neg: walks. -/
import Derived.Test.YtgbcjlknlagoeaaGreatDoorMic
namespace Go.Proofs.YtgbcjlknlagoeaaGreatDoor
open Go.RowKit Go.Gb


set_option maxHeartbeats 1000000 in
set_option maxRecDepth 100000 in
theorem operate_add (a1 a2 : ByteArray) (s t r : Int) (b c d : ByteArray) (res : ByteArray) (w : World)
    (hread : Calls Tryz.prog 84 #[.string a1, .string a2] w fun e w' => e = .returned (.tuple #[.agg #[.int .i64 s, .string b], .agg #[.int .i64 t, .string c], .bool true]) ∧ Below w.heap.size w w')
    (hop : ∀ W, Below w.heap.size w W → Calls Tryz.prog 89 #[.agg #[.int .i64 s, .string b], .agg #[.int .i64 t, .string c]] W fun e w' => e = .returned (.agg #[.int .i64 r, .string d]) ∧ Below W.heap.size W w')
    (hstr : ∀ W, Calls Tryz.prog 81 #[.agg #[.int .i64 r, .string d]] W fun e w' => e = .returned (.string res) ∧ Below W.heap.size W w') :
    Calls Tryz.prog 88 #[.string a1, .string a2, .func (.func 89) #[] #[]] w fun e w' => e = .returned (.tuple #[.string res, .int .i64 0]) ∧ Below w.heap.size w w' := by
  have HR := Lib.hid hread
  have HO := Lib.hid hop
  have HS := Lib.hid hstr
  clear hread hop hstr
  go_enter Tryz.func88, Tryz.ntmps88
  go_wp2_with fail
  refine HR.out.mono ?_
  rintro e w1 ⟨rfl, hb1⟩
  have HB1 := Lib.hid ((hb1.alloc hb1.size (.cells #[.int .i64 s, .string b] 66)).alloc (by have := hb1.size; simp; omega) (.cells #[.int .i64 t, .string c] 66))
  clear hb1
  go_wp2_with fail
  refine (HO.out _ HB1.out).mono ?_
  rintro e w2 ⟨rfl, hb2⟩
  have HB2 := Lib.hid (HB1.out.trans (hb2.mono HB1.out.size))
  clear hb2
  go_wp2_with fail
  refine (HS.out _).mono ?_
  rintro e w3 ⟨rfl, hb3⟩
  have HB3 := Lib.hid (HB2.out.trans (hb3.mono HB2.out.size))
  clear hb3
  go_wp2
  go_ret2
  exact ⟨rfl, HB3.out⟩
set_option maxHeartbeats 1000000 in
theorem operate_add_bad (a1 a2 : ByteArray) (w : World)
    (hread : Calls Tryz.prog 84 #[.string a1, .string a2] w fun e w' => ∃ (s t : Int) (c d : ByteArray), e = .returned (.tuple #[.agg #[.int .i64 s, .string c], .agg #[.int .i64 t, .string d], .bool false]) ∧ Below w.heap.size w w') :
    Calls Tryz.prog 88 #[.string a1, .string a2, .func (.func 89) #[] #[]] w fun e w' => e = .returned (.tuple #[.string ⟨#[]⟩, .int .i64 1]) ∧ Below w.heap.size w w' := by
  have HR := Lib.hid hread
  clear hread
  go_enter Tryz.func88, Tryz.ntmps88
  go_wp2_with fail
  refine HR.out.mono ?_
  rintro e w1 ⟨s, t, b, c, rfl, hb1⟩
  have HB1 := Lib.hid ((hb1.alloc hb1.size (.cells #[.int .i64 s, .string b] 66)).alloc (by have := hb1.size; simp; omega) (.cells #[.int .i64 t, .string c] 66))
  clear hb1
  go_wp2
  go_ret2
  exact ⟨rfl, HB1.out⟩

set_option maxHeartbeats 1000000 in
set_option maxRecDepth 100000 in
theorem operate_subtract (a1 a2 : ByteArray) (s t r : Int) (b c d : ByteArray) (res : ByteArray) (w : World)
    (hread : Calls Tryz.prog 84 #[.string a1, .string a2] w fun e w' => e = .returned (.tuple #[.agg #[.int .i64 s, .string b], .agg #[.int .i64 t, .string c], .bool true]) ∧ Below w.heap.size w w')
    (hop : ∀ W, Below w.heap.size w W → Calls Tryz.prog 91 #[.agg #[.int .i64 s, .string b], .agg #[.int .i64 t, .string c]] W fun e w' => e = .returned (.agg #[.int .i64 r, .string d]) ∧ Below W.heap.size W w')
    (hstr : ∀ W, Calls Tryz.prog 81 #[.agg #[.int .i64 r, .string d]] W fun e w' => e = .returned (.string res) ∧ Below W.heap.size W w') :
    Calls Tryz.prog 88 #[.string a1, .string a2, .func (.func 91) #[] #[]] w fun e w' => e = .returned (.tuple #[.string res, .int .i64 0]) ∧ Below w.heap.size w w' := by
  have HR := Lib.hid hread
  have HO := Lib.hid hop
  have HS := Lib.hid hstr
  clear hread hop hstr
  go_enter Tryz.func88, Tryz.ntmps88
  go_wp2_with fail
  refine HR.out.mono ?_
  rintro e w1 ⟨rfl, hb1⟩
  have HB1 := Lib.hid ((hb1.alloc hb1.size (.cells #[.int .i64 s, .string b] 66)).alloc (by have := hb1.size; simp; omega) (.cells #[.int .i64 t, .string c] 66))
  clear hb1
  go_wp2_with fail
  refine (HO.out _ HB1.out).mono ?_
  rintro e w2 ⟨rfl, hb2⟩
  have HB2 := Lib.hid (HB1.out.trans (hb2.mono HB1.out.size))
  clear hb2
  go_wp2_with fail
  refine (HS.out _).mono ?_
  rintro e w3 ⟨rfl, hb3⟩
  have HB3 := Lib.hid (HB2.out.trans (hb3.mono HB2.out.size))
  clear hb3
  go_wp2
  go_ret2
  exact ⟨rfl, HB3.out⟩
set_option maxHeartbeats 1000000 in
theorem operate_subtract_bad (a1 a2 : ByteArray) (w : World)
    (hread : Calls Tryz.prog 84 #[.string a1, .string a2] w fun e w' => ∃ (s t : Int) (c d : ByteArray), e = .returned (.tuple #[.agg #[.int .i64 s, .string c], .agg #[.int .i64 t, .string d], .bool false]) ∧ Below w.heap.size w w') :
    Calls Tryz.prog 88 #[.string a1, .string a2, .func (.func 91) #[] #[]] w fun e w' => e = .returned (.tuple #[.string ⟨#[]⟩, .int .i64 1]) ∧ Below w.heap.size w w' := by
  have HR := Lib.hid hread
  clear hread
  go_enter Tryz.func88, Tryz.ntmps88
  go_wp2_with fail
  refine HR.out.mono ?_
  rintro e w1 ⟨s, t, b, c, rfl, hb1⟩
  have HB1 := Lib.hid ((hb1.alloc hb1.size (.cells #[.int .i64 s, .string b] 66)).alloc (by have := hb1.size; simp; omega) (.cells #[.int .i64 t, .string c] 66))
  clear hb1
  go_wp2
  go_ret2
  exact ⟨rfl, HB1.out⟩

set_option maxHeartbeats 1000000 in
set_option maxRecDepth 100000 in
theorem operate_multiply (a1 a2 : ByteArray) (s t r : Int) (b c d : ByteArray) (res : ByteArray) (w : World)
    (hread : Calls Tryz.prog 84 #[.string a1, .string a2] w fun e w' => e = .returned (.tuple #[.agg #[.int .i64 s, .string b], .agg #[.int .i64 t, .string c], .bool true]) ∧ Below w.heap.size w w')
    (hop : ∀ W, Below w.heap.size w W → Calls Tryz.prog 93 #[.agg #[.int .i64 s, .string b], .agg #[.int .i64 t, .string c]] W fun e w' => e = .returned (.agg #[.int .i64 r, .string d]) ∧ Below W.heap.size W w')
    (hstr : ∀ W, Calls Tryz.prog 81 #[.agg #[.int .i64 r, .string d]] W fun e w' => e = .returned (.string res) ∧ Below W.heap.size W w') :
    Calls Tryz.prog 88 #[.string a1, .string a2, .func (.func 93) #[] #[]] w fun e w' => e = .returned (.tuple #[.string res, .int .i64 0]) ∧ Below w.heap.size w w' := by
  have HR := Lib.hid hread
  have HO := Lib.hid hop
  have HS := Lib.hid hstr
  clear hread hop hstr
  go_enter Tryz.func88, Tryz.ntmps88
  go_wp2_with fail
  refine HR.out.mono ?_
  rintro e w1 ⟨rfl, hb1⟩
  have HB1 := Lib.hid ((hb1.alloc hb1.size (.cells #[.int .i64 s, .string b] 66)).alloc (by have := hb1.size; simp; omega) (.cells #[.int .i64 t, .string c] 66))
  clear hb1
  go_wp2_with fail
  refine (HO.out _ HB1.out).mono ?_
  rintro e w2 ⟨rfl, hb2⟩
  have HB2 := Lib.hid (HB1.out.trans (hb2.mono HB1.out.size))
  clear hb2
  go_wp2_with fail
  refine (HS.out _).mono ?_
  rintro e w3 ⟨rfl, hb3⟩
  have HB3 := Lib.hid (HB2.out.trans (hb3.mono HB2.out.size))
  clear hb3
  go_wp2
  go_ret2
  exact ⟨rfl, HB3.out⟩
set_option maxHeartbeats 1000000 in
theorem operate_multiply_bad (a1 a2 : ByteArray) (w : World)
    (hread : Calls Tryz.prog 84 #[.string a1, .string a2] w fun e w' => ∃ (s t : Int) (c d : ByteArray), e = .returned (.tuple #[.agg #[.int .i64 s, .string c], .agg #[.int .i64 t, .string d], .bool false]) ∧ Below w.heap.size w w') :
    Calls Tryz.prog 88 #[.string a1, .string a2, .func (.func 93) #[] #[]] w fun e w' => e = .returned (.tuple #[.string ⟨#[]⟩, .int .i64 1]) ∧ Below w.heap.size w w' := by
  have HR := Lib.hid hread
  clear hread
  go_enter Tryz.func88, Tryz.ntmps88
  go_wp2_with fail
  refine HR.out.mono ?_
  rintro e w1 ⟨s, t, b, c, rfl, hb1⟩
  have HB1 := Lib.hid ((hb1.alloc hb1.size (.cells #[.int .i64 s, .string b] 66)).alloc (by have := hb1.size; simp; omega) (.cells #[.int .i64 t, .string c] 66))
  clear hb1
  go_wp2
  go_ret2
  exact ⟨rfl, HB1.out⟩

set_option maxHeartbeats 1000000 in
theorem zAdd (x y z : Int) (hz : x + y = z) (hx : FitZ x) (hy : FitZ y) (fz : FitZ z) (w : World) (hl : La w) :
    Calls Tryz.prog 39 #[.string (Sz x), .string (Sz y)] w fun e w' => e = .returned (.tuple #[.string (Sz z), .int .i64 0]) ∧ Below w.heap.size w w' := by
  subst hz
  have HO := Lib.hid (operate_add (Sz x) (Sz y) _ _ _ _ _ _ (Sz (x + y)) w (readBoth_yes x y hx hy w hl.zz) (fun W hW => add_any' x y hx hy W (hl.on hW)) (fun W => string_any (x + y) fz W))
  clear hl
  generalize Sz (x + y) = d at *
  go_enter Tryz.func39, Tryz.ntmps39
  go_wp2_with fail
  refine HO.out.mono ?_
  rintro e w1 ⟨rfl, hb1⟩
  go_wp2
  go_ret2
  exact ⟨rfl, hb1⟩
set_option maxHeartbeats 1000000 in
theorem zAdd_no (a b : ByteArray) (h : (vldZ a.data.toList && vldZ b.data.toList) = false) (ha : a.size ≤ 1000) (hb : b.size ≤ 1000) (w : World) (hl : La w) :
    Calls Tryz.prog 39 #[.string a, .string b] w fun e w' => e = .returned (.tuple #[.string ⟨#[]⟩, .int .i64 1]) ∧ Below w.heap.size w w' := by
  have HO := Lib.hid (operate_add_bad a b w (readBoth_no a b h ha hb w hl.zz))
  clear hl h
  go_enter Tryz.func39, Tryz.ntmps39
  go_wp2_with fail
  refine HO.out.mono ?_
  rintro e w1 ⟨rfl, hb1⟩
  go_wp2
  go_ret2
  exact ⟨rfl, hb1⟩

set_option maxHeartbeats 1000000 in
theorem zSub (x y z : Int) (hz : x - y = z) (hx : FitZ x) (hy : FitZ y) (fz : FitZ z) (w : World) (hl : La w) :
    Calls Tryz.prog 41 #[.string (Sz x), .string (Sz y)] w fun e w' => e = .returned (.tuple #[.string (Sz z), .int .i64 0]) ∧ Below w.heap.size w w' := by
  subst hz
  have HO := Lib.hid (operate_subtract (Sz x) (Sz y) _ _ _ _ _ _ (Sz (x - y)) w (readBoth_yes x y hx hy w hl.zz) (fun W hW => zsubtract x y hx hy W (hl.on hW)) (fun W => string_any (x - y) fz W))
  clear hl
  generalize Sz (x - y) = d at *
  go_enter Tryz.func41, Tryz.ntmps41
  go_wp2_with fail
  refine HO.out.mono ?_
  rintro e w1 ⟨rfl, hb1⟩
  go_wp2
  go_ret2
  exact ⟨rfl, hb1⟩
set_option maxHeartbeats 1000000 in
theorem zSub_no (a b : ByteArray) (h : (vldZ a.data.toList && vldZ b.data.toList) = false) (ha : a.size ≤ 1000) (hb : b.size ≤ 1000) (w : World) (hl : La w) :
    Calls Tryz.prog 41 #[.string a, .string b] w fun e w' => e = .returned (.tuple #[.string ⟨#[]⟩, .int .i64 1]) ∧ Below w.heap.size w w' := by
  have HO := Lib.hid (operate_subtract_bad a b w (readBoth_no a b h ha hb w hl.zz))
  clear hl h
  go_enter Tryz.func41, Tryz.ntmps41
  go_wp2_with fail
  refine HO.out.mono ?_
  rintro e w1 ⟨rfl, hb1⟩
  go_wp2
  go_ret2
  exact ⟨rfl, hb1⟩

set_option maxHeartbeats 1000000 in
theorem zMul (x y z : Int) (hz : x * y = z) (hx : FitZ x) (hy : FitZ y) (fz : FitZ z) (w : World) (hl : La w) :
    Calls Tryz.prog 43 #[.string (Sz x), .string (Sz y)] w fun e w' => e = .returned (.tuple #[.string (Sz z), .int .i64 0]) ∧ Below w.heap.size w w' := by
  subst hz
  have HO := Lib.hid (operate_multiply (Sz x) (Sz y) _ _ _ _ _ _ (Sz (x * y)) w (readBoth_yes x y hx hy w hl.zz) (fun W hW => multiply_any x y hx hy W (hl.on hW)) (fun W => string_any (x * y) fz W))
  clear hl
  generalize Sz (x * y) = d at *
  go_enter Tryz.func43, Tryz.ntmps43
  go_wp2_with fail
  refine HO.out.mono ?_
  rintro e w1 ⟨rfl, hb1⟩
  go_wp2
  go_ret2
  exact ⟨rfl, hb1⟩
set_option maxHeartbeats 1000000 in
theorem zMul_no (a b : ByteArray) (h : (vldZ a.data.toList && vldZ b.data.toList) = false) (ha : a.size ≤ 1000) (hb : b.size ≤ 1000) (w : World) (hl : La w) :
    Calls Tryz.prog 43 #[.string a, .string b] w fun e w' => e = .returned (.tuple #[.string ⟨#[]⟩, .int .i64 1]) ∧ Below w.heap.size w w' := by
  have HO := Lib.hid (operate_multiply_bad a b w (readBoth_no a b h ha hb w hl.zz))
  clear hl h
  go_enter Tryz.func43, Tryz.ntmps43
  go_wp2_with fail
  refine HO.out.mono ?_
  rintro e w1 ⟨rfl, hb1⟩
  go_wp2
  go_ret2
  exact ⟨rfl, hb1⟩

set_option maxHeartbeats 1000000 in
theorem zCompare (x y : Int) (c : Int) (hc : cmpZ x y = c) (hx : FitZ x) (hy : FitZ y) (w : World) (hl : La w) :
    Calls Tryz.prog 37 #[.string (Sz x), .string (Sz y)] w fun e w' => e = .returned (.tuple #[.int .i64 c, .int .i64 0]) ∧ Below w.heap.size w w' := by
  have HR := Lib.hid (readBoth_yes x y hx hy w hl.zz)
  have HC := Lib.hid (fun W => compare_any x y hx hy W)
  rw [hc] at HC
  unfold Zv at *
  generalize x.sign = s at *
  generalize y.sign = t at *
  generalize Sn x.natAbs = b at *
  generalize Sn y.natAbs = d at *
  clear hl hc hx hy
  go_enter Tryz.func37, Tryz.ntmps37
  go_wp2_with fail
  refine HR.out.mono ?_
  rintro e w1 ⟨rfl, hb1⟩
  have HB1 := Lib.hid ((hb1.alloc hb1.size (.cells #[.int .i64 s, .string b] 66)).alloc (by have := hb1.size; simp; omega) (.cells #[.int .i64 t, .string d] 66))
  clear hb1
  go_wp2_with fail
  refine (HC.out _).mono ?_
  rintro e w2 ⟨rfl, hb2⟩
  have HB2 := Lib.hid (HB1.out.trans (hb2.mono HB1.out.size))
  clear hb2
  go_wp2
  go_ret2
  exact ⟨rfl, HB2.out⟩
set_option maxHeartbeats 1000000 in
theorem zCompare_no (a b : ByteArray) (h : (vldZ a.data.toList && vldZ b.data.toList) = false) (ha : a.size ≤ 1000) (hb : b.size ≤ 1000) (w : World) (hl : La w) :
    Calls Tryz.prog 37 #[.string a, .string b] w fun e w' => e = .returned (.tuple #[.int .i64 0, .int .i64 1]) ∧ Below w.heap.size w w' := by
  have HR := Lib.hid (readBoth_no a b h ha hb w hl.zz)
  clear hl h
  go_enter Tryz.func37, Tryz.ntmps37
  go_wp2_with fail
  refine HR.out.mono ?_
  rintro e w1 ⟨s, t, b, c, rfl, hb1⟩
  have HB1 := Lib.hid ((hb1.alloc hb1.size (.cells #[.int .i64 s, .string b] 66)).alloc (by have := hb1.size; simp; omega) (.cells #[.int .i64 t, .string c] 66))
  clear hb1
  go_wp2
  go_ret2
  exact ⟨rfl, HB1.out⟩

set_option maxHeartbeats 1000000 in
theorem zSign (x : Int) (hx : FitZ x) (w : World) (hl : La w) :
    Calls Tryz.prog 27 #[.string (Sz x)] w fun e w' => e = .returned (.tuple #[.int .i64 x.sign, .int .i64 0]) ∧ Below w.heap.size w w' := by
  have HR := Lib.hid (read_yes x hx w hl.zz)
  unfold Zv at *
  generalize x.sign = s at *
  generalize Sn x.natAbs = b at *
  clear hl hx
  go_enter Tryz.func27, Tryz.ntmps27
  go_wp2_with fail
  refine HR.out.mono ?_
  rintro e w1 ⟨rfl, hb1⟩
  have HB1 := Lib.hid (hb1.alloc hb1.size (.cells #[.int .i64 s, .string b] 66))
  clear hb1
  go_wp2
  go_ret2
  exact ⟨rfl, HB1.out⟩
set_option maxHeartbeats 1000000 in
theorem zSign_no (a : ByteArray) (h : vldZ a.data.toList = false) (ha : a.size ≤ maxLen) (w : World) :
    Calls Tryz.prog 27 #[.string a] w fun e w' => e = .returned (.tuple #[.int .i64 0, .int .i64 1]) ∧ Below w.heap.size w w' := by
  have HR := Lib.hid (read_no a h ha w)
  unfold Zno at HR
  clear h ha
  go_enter Tryz.func27, Tryz.ntmps27
  go_wp2_with fail
  refine HR.out.mono ?_
  rintro e w1 ⟨rfl, hb1⟩
  have HB1 := Lib.hid (hb1.alloc hb1.size (.cells #[.int .i64 0, .string ⟨#[]⟩] 66))
  clear hb1
  go_wp2
  go_ret2
  exact ⟨rfl, HB1.out⟩

set_option maxHeartbeats 1000000 in
theorem zAbs (x : Int) (hx : FitZ x) (w : World) (hl : La w) :
    Calls Tryz.prog 29 #[.string (Sz x)] w fun e w' => e = .returned (.tuple #[.string (Sn x.natAbs), .int .i64 0]) ∧ Below w.heap.size w w' := by
  have HR := Lib.hid (read_yes x hx w hl.zz)
  unfold Zv at *
  generalize x.sign = s at *
  generalize Sn x.natAbs = b at *
  clear hl hx
  go_enter Tryz.func29, Tryz.ntmps29
  go_wp2_with fail
  refine HR.out.mono ?_
  rintro e w1 ⟨rfl, hb1⟩
  have HB1 := Lib.hid (hb1.alloc hb1.size (.cells #[.int .i64 s, .string b] 66))
  clear hb1
  go_wp2
  go_ret2
  exact ⟨rfl, HB1.out⟩
set_option maxHeartbeats 1000000 in
theorem zAbs_no (a : ByteArray) (h : vldZ a.data.toList = false) (ha : a.size ≤ maxLen) (w : World) :
    Calls Tryz.prog 29 #[.string a] w fun e w' => e = .returned (.tuple #[.string ⟨#[]⟩, .int .i64 1]) ∧ Below w.heap.size w w' := by
  have HR := Lib.hid (read_no a h ha w)
  unfold Zno at HR
  clear h ha
  go_enter Tryz.func29, Tryz.ntmps29
  go_wp2_with fail
  refine HR.out.mono ?_
  rintro e w1 ⟨rfl, hb1⟩
  have HB1 := Lib.hid (hb1.alloc hb1.size (.cells #[.int .i64 0, .string ⟨#[]⟩] 66))
  clear hb1
  go_wp2
  go_ret2
  exact ⟨rfl, HB1.out⟩

set_option maxHeartbeats 1000000 in
theorem zNeg (x : Int) (hx : FitZ x) (w : World) (hl : La w) :
    Calls Tryz.prog 31 #[.string (Sz x)] w fun e w' => e = .returned (.tuple #[.string (Sz (-x)), .int .i64 0]) ∧ Below w.heap.size w w' := by
  have HR := Lib.hid (read_yes x hx w hl.zz)
  have HN := Lib.hid (fun W => negative_any x W)
  have HS := Lib.hid (fun W => string_any (-x) (by unfold FitZ; rw [Int.natAbs_neg]; exact hx) W)
  unfold Zv at *
  rw [Int.sign_neg, Int.natAbs_neg] at HN HS
  generalize Sz (-x) = dd at *
  generalize x.sign = s at *
  generalize Sn x.natAbs = b at *
  generalize hns : -s = ns at *
  clear hns
  clear hl hx
  go_enter Tryz.func31, Tryz.ntmps31
  go_wp2_with fail
  refine HR.out.mono ?_
  rintro e w1 ⟨rfl, hb1⟩
  have HB1 := Lib.hid (hb1.alloc hb1.size (.cells #[.int .i64 s, .string b] 66))
  clear hb1
  go_wp2_with fail
  refine (HN.out _).mono ?_
  rintro e w2 ⟨rfl, hb2⟩
  have HB2 := Lib.hid (HB1.out.trans (hb2.mono HB1.out.size))
  clear hb2
  go_wp2_with fail
  refine (HS.out _).mono ?_
  rintro e w3 ⟨rfl, hb3⟩
  have HB3 := Lib.hid (HB2.out.trans (hb3.mono HB2.out.size))
  clear hb3
  go_wp2
  go_ret2
  exact ⟨rfl, HB3.out⟩
set_option maxHeartbeats 1000000 in
theorem zNeg_no (a : ByteArray) (h : vldZ a.data.toList = false) (ha : a.size ≤ maxLen) (w : World) :
    Calls Tryz.prog 31 #[.string a] w fun e w' => e = .returned (.tuple #[.string ⟨#[]⟩, .int .i64 1]) ∧ Below w.heap.size w w' := by
  have HR := Lib.hid (read_no a h ha w)
  unfold Zno at HR
  clear h ha
  go_enter Tryz.func31, Tryz.ntmps31
  go_wp2_with fail
  refine HR.out.mono ?_
  rintro e w1 ⟨rfl, hb1⟩
  have HB1 := Lib.hid (hb1.alloc hb1.size (.cells #[.int .i64 0, .string ⟨#[]⟩] 66))
  clear hb1
  go_wp2
  go_ret2
  exact ⟨rfl, HB1.out⟩

end Go.Proofs.YtgbcjlknlagoeaaGreatDoor
