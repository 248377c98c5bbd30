/- integer.Bezout: walks. -/
import Derived.Test.YtgbcjlknlagoeaaGreatDoorIl
namespace Go.Proofs.YtgbcjlknlagoeaaGreatDoor
open Go.RowKit Go.Gb

set_option maxHeartbeats 4000000 in
set_option maxRecDepth 100000 in
theorem bezout_walk (a1 a2 : ByteArray) (s t x p r y z : Int) (b c gs xb pb rb yb zb rx ry : ByteArray) (ht : t ≠ 0) (w : World) (hl : Zz w)
    (hread : Calls Tryz.prog 84 #[.string a1, .string a2] w fun e w' => e = .returned (.tuple #[.agg #[.int .i64 s, .string b], .agg #[.int .i64 t, .string c], .bool true]) ∧ Below w.heap.size w w')
    (hcomb : ∀ W, Below w.heap.size w W → Calls Tryz.prog 97 #[.agg #[.int .i64 s, .string b], .agg #[.int .i64 t, .string c]] W fun e w' => e = .returned (.tuple #[.string gs, .agg #[.int .i64 x, .string xb]]) ∧ Below W.heap.size W w')
    (hmul : ∀ W, Below w.heap.size w W → Calls Tryz.prog 93 #[.agg #[.int .i64 s, .string b], .agg #[.int .i64 x, .string xb]] W fun e w' => e = .returned (.agg #[.int .i64 p, .string pb]) ∧ Below W.heap.size W w')
    (hsub : ∀ W, Below w.heap.size w W → Calls Tryz.prog 91 #[.agg #[.int .i64 1, .string gs], .agg #[.int .i64 p, .string pb]] W fun e w' => e = .returned (.agg #[.int .i64 r, .string rb]) ∧ Below W.heap.size W w')
    (hdiv : ∀ W, Below w.heap.size w W → Calls Tryz.prog 95 #[.agg #[.int .i64 r, .string rb], .agg #[.int .i64 t, .string c]] W fun e w' => e = .returned (.tuple #[.agg #[.int .i64 y, .string yb], .agg #[.int .i64 z, .string zb]]) ∧ Below W.heap.size W w')
    (hs1 : ∀ W, Calls Tryz.prog 81 #[.agg #[.int .i64 x, .string xb]] W fun e w' => e = .returned (.string rx) ∧ Below W.heap.size W w')
    (hs2 : ∀ W, Calls Tryz.prog 81 #[.agg #[.int .i64 y, .string yb]] W fun e w' => e = .returned (.string ry) ∧ Below W.heap.size W w') :
    Calls Tryz.prog 47 #[.string a1, .string a2] w fun e w' => e = .returned (.tuple #[.string gs, .string rx, .string ry, .int .i64 0]) ∧ Below w.heap.size w w' := by
  have HR := Lib.hid hread
  have HC := Lib.hid hcomb
  have HM := Lib.hid hmul
  have HS := Lib.hid hsub
  have HD := Lib.hid hdiv
  have HS1 := Lib.hid hs1
  have HS2 := Lib.hid hs2
  have HZ := Lib.hid hl
  have ht1 : (t == 0) = false := by simpa using ht
  clear hread hcomb hmul hsub hdiv hs1 hs2 hl
  go_enter Tryz.func47, Tryz.ntmps47
  go_wp2_with fail
  refine HR.out.mono ?_
  rintro e w1 ⟨rfl, hb1⟩
  have HB1 := Lib.hid ((hb1.alloc hb1.size (.cells #[.int .i64 s, .string b] 66)).alloc (by have := hb1.size; simp; omega) (.cells #[.int .i64 t, .string c] 66))
  have HN8 := Lib.hid ((Nb.new w1 s b).alloc (.cells #[.int .i64 t, .string c] 66))
  have hn9 := Nb.new (w1.alloc (.cells #[.int .i64 s, .string b] 66)) t c
  rw [World.size_alloc] at hn9
  have HN9 := Lib.hid hn9
  obtain ⟨z0, z1, z2⟩ := HZ.out.on HB1.out
  clear hb1 hn9
  go_wp2_with fail
  refine (HC.out _ HB1.out).mono ?_
  rintro e w2 ⟨rfl, hb2⟩
  have HB2 := Lib.hid ((HB1.out.trans (hb2.mono HB1.out.size)).alloc (HB1.out.trans (hb2.mono HB1.out.size)).size (.cells #[.int .i64 x, .string xb] 66))
  have n8 := (HN8.out.below hb2).alloc (.cells #[.int .i64 x, .string xb] 66)
  have n9 := (HN9.out.below hb2).alloc (.cells #[.int .i64 x, .string xb] 66)
  have n12 := Nb.new w2 x xb
  have HN8 := Lib.hid n8
  have HN9 := Lib.hid n9
  have HN12 := Lib.hid n12
  have a0 := n8.c0
  have a1' := n8.c1
  have b0 := n9.c0
  have b1 := n9.c1
  have d0 := n12.c0
  have d1 := n12.c1
  clear hb2 z0 z1 z2 n8 n9 n12
  go_wp2_with fail
  refine (HM.out _ HB2.out).mono ?_
  rintro e w3 ⟨rfl, hb3⟩
  have HB3 := Lib.hid (HB2.out.trans (hb3.mono HB2.out.size))
  have HN9 := Lib.hid (HN9.out.below hb3)
  have HN12 := Lib.hid (HN12.out.below hb3)
  clear hb3 a0 a1' b0 b1 d0 d1
  go_wp2_with fail
  refine (HS.out _ HB3.out).mono ?_
  rintro e w4 ⟨rfl, hb4⟩
  have HB4 := Lib.hid ((HB3.out.trans (hb4.mono HB3.out.size)).alloc (HB3.out.trans (hb4.mono HB3.out.size)).size (.cells #[.int .i64 r, .string rb] 66))
  have n9 := (HN9.out.below hb4).alloc (.cells #[.int .i64 r, .string rb] 66)
  have HN12 := Lib.hid ((HN12.out.below hb4).alloc (.cells #[.int .i64 r, .string rb] 66))
  have b0 := n9.c0
  have b1 := n9.c1
  clear hb4 n9
  go_wp2_with fail
  refine (HD.out _ HB4.out).mono ?_
  rintro e w5 ⟨rfl, hb5⟩
  have HB5 := Lib.hid (((HB4.out.trans (hb5.mono HB4.out.size)).alloc (HB4.out.trans (hb5.mono HB4.out.size)).size (.cells #[.int .i64 y, .string yb] 66)).alloc (by have := (HB4.out.trans (hb5.mono HB4.out.size)).size; simp; omega) (.cells #[.int .i64 z, .string zb] 66))
  have n12 := ((HN12.out.below hb5).alloc (.cells #[.int .i64 y, .string yb] 66)).alloc (.cells #[.int .i64 z, .string zb] 66)
  have n14 := (Nb.new w5 y yb).alloc (.cells #[.int .i64 z, .string zb] 66)
  have d0 := n12.c0
  have d1 := n12.c1
  have l14 := n14.lt
  have e0 := n14.c0
  have e1 := n14.c1
  clear hb5 n12 n14 b0 b1
  go_wp2
  go_region_with (first | (go_at_call 81; (with_reducible refine (HS1.out _).mono ?_); rintro e w6 ⟨rfl, hb6⟩; have HB6 : Below w.heap.size w w6 := (by first | exact HB5.out.trans (hb6.mono HB5.out.size) | exact HB5.out.drew.trans (hb6.mono HB5.out.drew.size)); have g0 : w6.cell? ⟨w5.heap.size, 0, none⟩ = some (.int .i64 y) := (by first | exact (hb6.cell (p := ⟨w5.heap.size, 0, none⟩) l14).trans e0); have g1 : w6.cell? ⟨w5.heap.size, 1, none⟩ = some (.string yb) := (by first | exact (hb6.cell (p := ⟨w5.heap.size, 1, none⟩) l14).trans e1)) | (go_at_call 81; (with_reducible refine (HS2.out _).mono ?_); rintro e w7 ⟨rfl, hb7⟩; have HB7 : Below w.heap.size w w7 := (HB6.trans (hb7.mono HB6.size))))
  all_goals
    clear hb6 hb7
    go_wp2
    refine bodyPost_ret (v := .tuple #[.string gs, .string rx, .string ry, .int .i64 0]) (by simp [results, Tryz.results47, go_sem]) rfl ⟨rfl, HB7⟩

end Go.Proofs.YtgbcjlknlagoeaaGreatDoor
