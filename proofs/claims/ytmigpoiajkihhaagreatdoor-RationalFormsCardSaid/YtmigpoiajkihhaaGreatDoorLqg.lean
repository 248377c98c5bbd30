/- garboardlaw03.RationalForms returns true, for any strings: walks. -/
import Derived.Test.YtmigpoiajkihhaaGreatDoorMz39q
import Derived.Test.YtmigpoiajkihhaaGreatDoorMz51q
namespace Go.Proofs.YtmigpoiajkihhaaGreatDoor
set_option maxRecDepth 100000
set_option maxHeartbeats 20000000
open Go.RowKit Go.Gb
theorem fo_fit {x : Int} (h : (Sz x).size ≤ 60) : FitL x ∧ Sm 900 x.natAbs := ⟨FitL.of (smz_of' h) (by decide), (smz_of' h).mono (by decide)⟩
theorem fo_make (a b : Int) (q : Rat) (hq : Rat.divInt a b = q) (hb : b ≠ 0) (ha : (Sz a).size ≤ 60) (fb : (Sz b).size ≤ 60) (w : World) (hl : La w) :
 Calls Tryz.prog 9 #[.string (Sz a), .string (Sz b)] w fun e w' => e = .returned (.tuple #[.string (Sq q), .int .i64 0]) ∧ Below w.heap.size w w' := by
 subst hq; exact qMake a b hb (fo_fit ha).1 (fo_fit fb).1 w hl
theorem qform_long (a b c : ByteArray) (hab : 60 < a.size ∨ 60 < b.size ∨ 60 < c.size) (w : World) (hl : La w) :
 Calls Tryz.prog 3 #[.string a, .string b, .string c] w fun e w' => e = .returned (.bool true) ∧ Below w.heap.size w w' := by
 have HT := Lib.hid hl
 clear hl
 have HL := Lib.hid hab
 clear hab
 go_enter Tryz.func3, Tryz.ntmps3
 go_wp2_with fail
 refine (qawake _ HT.out).mono ?_
 rintro e w1 ⟨rfl, hb1⟩
 have HB1 := Lib.hid (hb1.alloc hb1.size (.cells #[.string a, .string b, .string c] 22))
 have hc := strs_cells3 w1 a b c
 have HLo := Lib.hid (long3_yes w1.heap.size a b c _ HL.out hc)
 clear hb1 hc
 go_wp2_with fail
 refine HLo.out.mono ?_
 rintro e w' ⟨rfl, rfl⟩
 go_wp2_with fail
 refine (qawake _ (HT.out.on HB1.out)).mono ?_
 rintro e w2 ⟨rfl, hb⟩
 have HB2 := Lib.hid (HB1.out.trans (hb.mono HB1.out.size))
 clear hb
 go_wp2
 go_ret
 exact ⟨rfl, HB2.out⟩
theorem qform_y1 (x : Rat) (sa : (Sq x).size ≤ 60) (n d : ByteArray) (sn : n.size ≤ 60) (sd : d.size ≤ 60) (vn : vldZ n.data.toList = false) (w : World) (hl : La w) :
 Calls Tryz.prog 3 #[.string (Sq x), .string n, .string d] w fun e w' => e = .returned (.bool true) ∧ Below w.heap.size w w' := by
 have HT := Lib.hid hl
 clear hl
 have kx : SmQ 60 x := smq_of sa (by decide)
 have fx : FitQ x := kx.fit (by decide)
 have P1 := Lib.hid (fun (W : World) (T : La W) => qparts x fx W T)
 have P2 := Lib.hid (fun (W : World) => srParts x (by omega) W)
 have V1 := Lib.hid (fun (W : World) (T : La W) => qvalid_yes x fx W T)
 have V2 := Lib.hid (fun (W : World) => by have h := srValid (Sq x) (by omega) W; rwa [sq_vld] at h : ∀ W : World, Calls Tryz.prog 14 #[.string (Sq x)] W fun e w' => e = .returned (.bool true) ∧ Below W.heap.size W w')
 have SA := Lib.hid sa
 clear sa kx fx
 generalize Sq x = a at *
 generalize Sz x.num = pn at *
 generalize Sz (x.den : Int) = pd at *
 have M1 := Lib.hid (fun (W : World) (T : La W) => make_bad1 n d W T (fun W _ => zValid_no n vn (by unfold maxLen; omega) W))
 have M2 := Lib.hid (fun (W : World) => srMake_bad1 n d vn (by omega) W)
 clear vn
 have SN := Lib.hid sn
 have SD := Lib.hid sd
 clear sn sd
 go_enter Tryz.func3, Tryz.ntmps3
 go_wp2_with fail
 refine (qawake _ HT.out).mono ?_
 rintro e w1 ⟨rfl, hb1⟩
 have HB1 := Lib.hid (hb1.alloc hb1.size (.cells #[.string a, .string n, .string d] 22))
 have hc := strs_cells3 w1 a n d
 have HLo := Lib.hid (long3_no w1.heap.size a n d _ SA.out SN.out SD.out hc)
 clear hb1 hc
 go_wp2_with fail
 refine HLo.out.mono ?_
 rintro e w' ⟨rfl, rfl⟩
 go_wp2_with fail
 refine (M1.out _ (HT.out.on HB1.out)).mono ?_
 rintro e w2 ⟨rfl, hb⟩
 have HB2 := Lib.hid (HB1.out.trans (hb.mono HB1.out.size))
 clear hb
 go_wp2_with fail
 refine (M2.out _).mono ?_
 rintro e w3 ⟨rfl, hb⟩
 have HB3 := Lib.hid (HB2.out.trans (hb.mono HB2.out.size))
 clear hb
 go_wp2_with fail
 refine (P1.out _ (HT.out.on HB3.out)).mono ?_
 rintro e w4 ⟨rfl, hb⟩
 have HB4 := Lib.hid (HB3.out.trans (hb.mono HB3.out.size))
 clear hb
 go_wp2_with fail
 refine (P2.out _).mono ?_
 rintro e w5 ⟨rfl, hb⟩
 have HB5 := Lib.hid (HB4.out.trans (hb.mono HB4.out.size))
 clear hb
 go_wp2_with fail
 refine (V1.out _ (HT.out.on HB5.out)).mono ?_
 rintro e w6 ⟨rfl, hb⟩
 have HB6 := Lib.hid (HB5.out.trans (hb.mono HB5.out.size))
 clear hb
 go_wp2_with fail
 refine (V2.out _).mono ?_
 rintro e w7 ⟨rfl, hb⟩
 have HB7 := Lib.hid (HB6.out.trans (hb.mono HB6.out.size))
 clear hb
 go_wp2
 go_ret
 exact ⟨rfl, HB7.out⟩
theorem qform_y2 (x : Rat) (sa : (Sq x).size ≤ 60) (n : Int) (d : ByteArray) (sn : (Sz n).size ≤ 60) (sd : d.size ≤ 60) (vd : vldZ d.data.toList = false) (w : World) (hl : La w) :
 Calls Tryz.prog 3 #[.string (Sq x), .string (Sz n), .string d] w fun e w' => e = .returned (.bool true) ∧ Below w.heap.size w w' := by
 have HT := Lib.hid hl
 clear hl
 have kx : SmQ 60 x := smq_of sa (by decide)
 have fx : FitQ x := kx.fit (by decide)
 have P1 := Lib.hid (fun (W : World) (T : La W) => qparts x fx W T)
 have P2 := Lib.hid (fun (W : World) => srParts x (by omega) W)
 have V1 := Lib.hid (fun (W : World) (T : La W) => qvalid_yes x fx W T)
 have V2 := Lib.hid (fun (W : World) => by have h := srValid (Sq x) (by omega) W; rwa [sq_vld] at h : ∀ W : World, Calls Tryz.prog 14 #[.string (Sq x)] W fun e w' => e = .returned (.bool true) ∧ Below W.heap.size W w')
 have SA := Lib.hid sa
 clear sa kx fx
 generalize Sq x = a at *
 generalize Sz x.num = pn at *
 generalize Sz (x.den : Int) = pd at *
 have fn := (fo_fit sn).1
 have M1 := Lib.hid (fun (W : World) (T : La W) => make_bad2 (Sz n) d W T (fun W hW => zValid_yes n fn.z W hW.zz) (fun W _ => zValid_no d vd (by unfold maxLen; omega) W))
 have M2 := Lib.hid (fun (W : World) => srMake_bad2 n d vd (by omega) (by omega) W)
 clear vd fn
 generalize Sz n = nn at *
 have SN := Lib.hid sn
 have SD := Lib.hid sd
 clear sn sd
 go_enter Tryz.func3, Tryz.ntmps3
 go_wp2_with fail
 refine (qawake _ HT.out).mono ?_
 rintro e w1 ⟨rfl, hb1⟩
 have HB1 := Lib.hid (hb1.alloc hb1.size (.cells #[.string a, .string nn, .string d] 22))
 have hc := strs_cells3 w1 a nn d
 have HLo := Lib.hid (long3_no w1.heap.size a nn d _ SA.out SN.out SD.out hc)
 clear hb1 hc
 go_wp2_with fail
 refine HLo.out.mono ?_
 rintro e w' ⟨rfl, rfl⟩
 go_wp2_with fail
 refine (M1.out _ (HT.out.on HB1.out)).mono ?_
 rintro e w2 ⟨rfl, hb⟩
 have HB2 := Lib.hid (HB1.out.trans (hb.mono HB1.out.size))
 clear hb
 go_wp2_with fail
 refine (M2.out _).mono ?_
 rintro e w3 ⟨rfl, hb⟩
 have HB3 := Lib.hid (HB2.out.trans (hb.mono HB2.out.size))
 clear hb
 go_wp2_with fail
 refine (P1.out _ (HT.out.on HB3.out)).mono ?_
 rintro e w4 ⟨rfl, hb⟩
 have HB4 := Lib.hid (HB3.out.trans (hb.mono HB3.out.size))
 clear hb
 go_wp2_with fail
 refine (P2.out _).mono ?_
 rintro e w5 ⟨rfl, hb⟩
 have HB5 := Lib.hid (HB4.out.trans (hb.mono HB4.out.size))
 clear hb
 go_wp2_with fail
 refine (V1.out _ (HT.out.on HB5.out)).mono ?_
 rintro e w6 ⟨rfl, hb⟩
 have HB6 := Lib.hid (HB5.out.trans (hb.mono HB5.out.size))
 clear hb
 go_wp2_with fail
 refine (V2.out _).mono ?_
 rintro e w7 ⟨rfl, hb⟩
 have HB7 := Lib.hid (HB6.out.trans (hb.mono HB6.out.size))
 clear hb
 go_wp2
 go_ret
 exact ⟨rfl, HB7.out⟩
theorem qform_y3 (x : Rat) (sa : (Sq x).size ≤ 60) (n : Int) (sn : (Sz n).size ≤ 60) (w : World) (hl : La w) :
 Calls Tryz.prog 3 #[.string (Sq x), .string (Sz n), .string ⟨#[48]⟩] w fun e w' => e = .returned (.bool true) ∧ Below w.heap.size w w' := by
 have HT := Lib.hid hl
 clear hl
 have kx : SmQ 60 x := smq_of sa (by decide)
 have fx : FitQ x := kx.fit (by decide)
 have P1 := Lib.hid (fun (W : World) (T : La W) => qparts x fx W T)
 have P2 := Lib.hid (fun (W : World) => srParts x (by omega) W)
 have V1 := Lib.hid (fun (W : World) (T : La W) => qvalid_yes x fx W T)
 have V2 := Lib.hid (fun (W : World) => by have h := srValid (Sq x) (by omega) W; rwa [sq_vld] at h : ∀ W : World, Calls Tryz.prog 14 #[.string (Sq x)] W fun e w' => e = .returned (.bool true) ∧ Below W.heap.size W w')
 have SA := Lib.hid sa
 clear sa kx fx
 generalize Sq x = a at *
 generalize Sz x.num = pn at *
 generalize Sz (x.den : Int) = pd at *
 have M1 := Lib.hid (fun (W : World) (T : La W) => qMake_zero n (fo_fit sn).1 W T)
 have M2 := Lib.hid (fun (W : World) => srMake_zero n (fo_fit sn).2 W)
 have sd : (⟨#[48]⟩ : ByteArray).size ≤ 60 := by decide
 generalize Sz n = nn at *
 have SN := Lib.hid sn
 have SD := Lib.hid sd
 clear sn sd
 go_enter Tryz.func3, Tryz.ntmps3
 go_wp2_with fail
 refine (qawake _ HT.out).mono ?_
 rintro e w1 ⟨rfl, hb1⟩
 have HB1 := Lib.hid (hb1.alloc hb1.size (.cells #[.string a, .string nn, .string ⟨#[48]⟩] 22))
 have hc := strs_cells3 w1 a nn ⟨#[48]⟩
 have HLo := Lib.hid (long3_no w1.heap.size a nn ⟨#[48]⟩ _ SA.out SN.out SD.out hc)
 clear hb1 hc
 go_wp2_with fail
 refine HLo.out.mono ?_
 rintro e w' ⟨rfl, rfl⟩
 go_wp2_with fail
 refine (M1.out _ (HT.out.on HB1.out)).mono ?_
 rintro e w2 ⟨rfl, hb⟩
 have HB2 := Lib.hid (HB1.out.trans (hb.mono HB1.out.size))
 clear hb
 go_wp2_with fail
 refine (M2.out _).mono ?_
 rintro e w3 ⟨rfl, hb⟩
 have HB3 := Lib.hid (HB2.out.trans (hb.mono HB2.out.size))
 clear hb
 go_wp2_with fail
 refine (P1.out _ (HT.out.on HB3.out)).mono ?_
 rintro e w4 ⟨rfl, hb⟩
 have HB4 := Lib.hid (HB3.out.trans (hb.mono HB3.out.size))
 clear hb
 go_wp2_with fail
 refine (P2.out _).mono ?_
 rintro e w5 ⟨rfl, hb⟩
 have HB5 := Lib.hid (HB4.out.trans (hb.mono HB4.out.size))
 clear hb
 go_wp2_with fail
 refine (V1.out _ (HT.out.on HB5.out)).mono ?_
 rintro e w6 ⟨rfl, hb⟩
 have HB6 := Lib.hid (HB5.out.trans (hb.mono HB5.out.size))
 clear hb
 go_wp2_with fail
 refine (V2.out _).mono ?_
 rintro e w7 ⟨rfl, hb⟩
 have HB7 := Lib.hid (HB6.out.trans (hb.mono HB6.out.size))
 clear hb
 go_wp2
 go_ret
 exact ⟨rfl, HB7.out⟩
theorem qform_y4 (x : Rat) (sa : (Sq x).size ≤ 60) (n d : Int) (sn : (Sz n).size ≤ 60) (sd : (Sz d).size ≤ 60) (hd0 : d ≠ 0) (w : World) (hl : La w) :
 Calls Tryz.prog 3 #[.string (Sq x), .string (Sz n), .string (Sz d)] w fun e w' => e = .returned (.bool true) ∧ Below w.heap.size w w' := by
 have HT := Lib.hid hl
 clear hl
 have kx : SmQ 60 x := smq_of sa (by decide)
 have fx : FitQ x := kx.fit (by decide)
 have P1 := Lib.hid (fun (W : World) (T : La W) => qparts x fx W T)
 have P2 := Lib.hid (fun (W : World) => srParts x (by omega) W)
 have V1 := Lib.hid (fun (W : World) (T : La W) => qvalid_yes x fx W T)
 have V2 := Lib.hid (fun (W : World) => by have h := srValid (Sq x) (by omega) W; rwa [sq_vld] at h : ∀ W : World, Calls Tryz.prog 14 #[.string (Sq x)] W fun e w' => e = .returned (.bool true) ∧ Below W.heap.size W w')
 have SA := Lib.hid sa
 clear sa kx fx
 generalize Sq x = a at *
 generalize Sz x.num = pn at *
 generalize Sz (x.den : Int) = pd at *
 obtain ⟨q, hq⟩ : ∃ q, Rat.divInt n d = q := ⟨_, rfl⟩
 have M1 := Lib.hid (fun (W : World) (T : La W) => fo_make n d q hq hd0 sn sd W T)
 have M2 := Lib.hid (fun (W : World) => srMake n d q hq hd0 (fo_fit sn).2 (fo_fit sd).2 W)
 clear hq hd0
 generalize Sz n = nn at *
 generalize Sz d = dd at *
 generalize Sq q = qq at *
 have SN := Lib.hid sn
 have SD := Lib.hid sd
 clear sn sd
 go_enter Tryz.func3, Tryz.ntmps3
 go_wp2_with fail
 refine (qawake _ HT.out).mono ?_
 rintro e w1 ⟨rfl, hb1⟩
 have HB1 := Lib.hid (hb1.alloc hb1.size (.cells #[.string a, .string nn, .string dd] 22))
 have hc := strs_cells3 w1 a nn dd
 have HLo := Lib.hid (long3_no w1.heap.size a nn dd _ SA.out SN.out SD.out hc)
 clear hb1 hc
 go_wp2_with fail
 refine HLo.out.mono ?_
 rintro e w' ⟨rfl, rfl⟩
 go_wp2_with fail
 refine (M1.out _ (HT.out.on HB1.out)).mono ?_
 rintro e w2 ⟨rfl, hb⟩
 have HB2 := Lib.hid (HB1.out.trans (hb.mono HB1.out.size))
 clear hb
 go_wp2_with fail
 refine (M2.out _).mono ?_
 rintro e w3 ⟨rfl, hb⟩
 have HB3 := Lib.hid (HB2.out.trans (hb.mono HB2.out.size))
 clear hb
 go_wp2_with fail
 refine (P1.out _ (HT.out.on HB3.out)).mono ?_
 rintro e w4 ⟨rfl, hb⟩
 have HB4 := Lib.hid (HB3.out.trans (hb.mono HB3.out.size))
 clear hb
 go_wp2_with fail
 refine (P2.out _).mono ?_
 rintro e w5 ⟨rfl, hb⟩
 have HB5 := Lib.hid (HB4.out.trans (hb.mono HB4.out.size))
 clear hb
 go_wp2_with fail
 refine (V1.out _ (HT.out.on HB5.out)).mono ?_
 rintro e w6 ⟨rfl, hb⟩
 have HB6 := Lib.hid (HB5.out.trans (hb.mono HB5.out.size))
 clear hb
 go_wp2_with fail
 refine (V2.out _).mono ?_
 rintro e w7 ⟨rfl, hb⟩
 have HB7 := Lib.hid (HB6.out.trans (hb.mono HB6.out.size))
 clear hb
 go_wp2
 go_ret
 exact ⟨rfl, HB7.out⟩
theorem qform_n1 (a : ByteArray) (sa : a.size ≤ 60) (va : vldQ a.data.toList = false) (n d : ByteArray) (sn : n.size ≤ 60) (sd : d.size ≤ 60) (vn : vldZ n.data.toList = false) (w : World) (hl : La w) :
 Calls Tryz.prog 3 #[.string a, .string n, .string d] w fun e w' => e = .returned (.bool true) ∧ Below w.heap.size w w' := by
 have HT := Lib.hid hl
 clear hl
 have P1 := Lib.hid (fun (W : World) (T : La W) => qparts_no a va (by omega) W T)
 have P2 := Lib.hid (fun (W : World) => srParts_no a va (by omega) W)
 have V1 := Lib.hid (fun (W : World) (T : La W) => qvalid_no a va (by omega) W T)
 have V2 := Lib.hid (fun (W : World) => by have h := srValid a (by omega) W; rwa [va] at h : ∀ W : World, Calls Tryz.prog 14 #[.string a] W fun e w' => e = .returned (.bool false) ∧ Below W.heap.size W w')
 have SA := Lib.hid sa
 clear sa va
 have M1 := Lib.hid (fun (W : World) (T : La W) => make_bad1 n d W T (fun W _ => zValid_no n vn (by unfold maxLen; omega) W))
 have M2 := Lib.hid (fun (W : World) => srMake_bad1 n d vn (by omega) W)
 clear vn
 have SN := Lib.hid sn
 have SD := Lib.hid sd
 clear sn sd
 go_enter Tryz.func3, Tryz.ntmps3
 go_wp2_with fail
 refine (qawake _ HT.out).mono ?_
 rintro e w1 ⟨rfl, hb1⟩
 have HB1 := Lib.hid (hb1.alloc hb1.size (.cells #[.string a, .string n, .string d] 22))
 have hc := strs_cells3 w1 a n d
 have HLo := Lib.hid (long3_no w1.heap.size a n d _ SA.out SN.out SD.out hc)
 clear hb1 hc
 go_wp2_with fail
 refine HLo.out.mono ?_
 rintro e w' ⟨rfl, rfl⟩
 go_wp2_with fail
 refine (M1.out _ (HT.out.on HB1.out)).mono ?_
 rintro e w2 ⟨rfl, hb⟩
 have HB2 := Lib.hid (HB1.out.trans (hb.mono HB1.out.size))
 clear hb
 go_wp2_with fail
 refine (M2.out _).mono ?_
 rintro e w3 ⟨rfl, hb⟩
 have HB3 := Lib.hid (HB2.out.trans (hb.mono HB2.out.size))
 clear hb
 go_wp2_with fail
 refine (P1.out _ (HT.out.on HB3.out)).mono ?_
 rintro e w4 ⟨rfl, hb⟩
 have HB4 := Lib.hid (HB3.out.trans (hb.mono HB3.out.size))
 clear hb
 go_wp2_with fail
 refine (P2.out _).mono ?_
 rintro e w5 ⟨rfl, hb⟩
 have HB5 := Lib.hid (HB4.out.trans (hb.mono HB4.out.size))
 clear hb
 go_wp2_with fail
 refine (V1.out _ (HT.out.on HB5.out)).mono ?_
 rintro e w6 ⟨rfl, hb⟩
 have HB6 := Lib.hid (HB5.out.trans (hb.mono HB5.out.size))
 clear hb
 go_wp2_with fail
 refine (V2.out _).mono ?_
 rintro e w7 ⟨rfl, hb⟩
 have HB7 := Lib.hid (HB6.out.trans (hb.mono HB6.out.size))
 clear hb
 go_wp2
 go_ret
 exact ⟨rfl, HB7.out⟩
theorem qform_n2 (a : ByteArray) (sa : a.size ≤ 60) (va : vldQ a.data.toList = false) (n : Int) (d : ByteArray) (sn : (Sz n).size ≤ 60) (sd : d.size ≤ 60) (vd : vldZ d.data.toList = false) (w : World) (hl : La w) :
 Calls Tryz.prog 3 #[.string a, .string (Sz n), .string d] w fun e w' => e = .returned (.bool true) ∧ Below w.heap.size w w' := by
 have HT := Lib.hid hl
 clear hl
 have P1 := Lib.hid (fun (W : World) (T : La W) => qparts_no a va (by omega) W T)
 have P2 := Lib.hid (fun (W : World) => srParts_no a va (by omega) W)
 have V1 := Lib.hid (fun (W : World) (T : La W) => qvalid_no a va (by omega) W T)
 have V2 := Lib.hid (fun (W : World) => by have h := srValid a (by omega) W; rwa [va] at h : ∀ W : World, Calls Tryz.prog 14 #[.string a] W fun e w' => e = .returned (.bool false) ∧ Below W.heap.size W w')
 have SA := Lib.hid sa
 clear sa va
 have fn := (fo_fit sn).1
 have M1 := Lib.hid (fun (W : World) (T : La W) => make_bad2 (Sz n) d W T (fun W hW => zValid_yes n fn.z W hW.zz) (fun W _ => zValid_no d vd (by unfold maxLen; omega) W))
 have M2 := Lib.hid (fun (W : World) => srMake_bad2 n d vd (by omega) (by omega) W)
 clear vd fn
 generalize Sz n = nn at *
 have SN := Lib.hid sn
 have SD := Lib.hid sd
 clear sn sd
 go_enter Tryz.func3, Tryz.ntmps3
 go_wp2_with fail
 refine (qawake _ HT.out).mono ?_
 rintro e w1 ⟨rfl, hb1⟩
 have HB1 := Lib.hid (hb1.alloc hb1.size (.cells #[.string a, .string nn, .string d] 22))
 have hc := strs_cells3 w1 a nn d
 have HLo := Lib.hid (long3_no w1.heap.size a nn d _ SA.out SN.out SD.out hc)
 clear hb1 hc
 go_wp2_with fail
 refine HLo.out.mono ?_
 rintro e w' ⟨rfl, rfl⟩
 go_wp2_with fail
 refine (M1.out _ (HT.out.on HB1.out)).mono ?_
 rintro e w2 ⟨rfl, hb⟩
 have HB2 := Lib.hid (HB1.out.trans (hb.mono HB1.out.size))
 clear hb
 go_wp2_with fail
 refine (M2.out _).mono ?_
 rintro e w3 ⟨rfl, hb⟩
 have HB3 := Lib.hid (HB2.out.trans (hb.mono HB2.out.size))
 clear hb
 go_wp2_with fail
 refine (P1.out _ (HT.out.on HB3.out)).mono ?_
 rintro e w4 ⟨rfl, hb⟩
 have HB4 := Lib.hid (HB3.out.trans (hb.mono HB3.out.size))
 clear hb
 go_wp2_with fail
 refine (P2.out _).mono ?_
 rintro e w5 ⟨rfl, hb⟩
 have HB5 := Lib.hid (HB4.out.trans (hb.mono HB4.out.size))
 clear hb
 go_wp2_with fail
 refine (V1.out _ (HT.out.on HB5.out)).mono ?_
 rintro e w6 ⟨rfl, hb⟩
 have HB6 := Lib.hid (HB5.out.trans (hb.mono HB5.out.size))
 clear hb
 go_wp2_with fail
 refine (V2.out _).mono ?_
 rintro e w7 ⟨rfl, hb⟩
 have HB7 := Lib.hid (HB6.out.trans (hb.mono HB6.out.size))
 clear hb
 go_wp2
 go_ret
 exact ⟨rfl, HB7.out⟩
theorem qform_n3 (a : ByteArray) (sa : a.size ≤ 60) (va : vldQ a.data.toList = false) (n : Int) (sn : (Sz n).size ≤ 60) (w : World) (hl : La w) :
 Calls Tryz.prog 3 #[.string a, .string (Sz n), .string ⟨#[48]⟩] w fun e w' => e = .returned (.bool true) ∧ Below w.heap.size w w' := by
 have HT := Lib.hid hl
 clear hl
 have P1 := Lib.hid (fun (W : World) (T : La W) => qparts_no a va (by omega) W T)
 have P2 := Lib.hid (fun (W : World) => srParts_no a va (by omega) W)
 have V1 := Lib.hid (fun (W : World) (T : La W) => qvalid_no a va (by omega) W T)
 have V2 := Lib.hid (fun (W : World) => by have h := srValid a (by omega) W; rwa [va] at h : ∀ W : World, Calls Tryz.prog 14 #[.string a] W fun e w' => e = .returned (.bool false) ∧ Below W.heap.size W w')
 have SA := Lib.hid sa
 clear sa va
 have M1 := Lib.hid (fun (W : World) (T : La W) => qMake_zero n (fo_fit sn).1 W T)
 have M2 := Lib.hid (fun (W : World) => srMake_zero n (fo_fit sn).2 W)
 have sd : (⟨#[48]⟩ : ByteArray).size ≤ 60 := by decide
 generalize Sz n = nn at *
 have SN := Lib.hid sn
 have SD := Lib.hid sd
 clear sn sd
 go_enter Tryz.func3, Tryz.ntmps3
 go_wp2_with fail
 refine (qawake _ HT.out).mono ?_
 rintro e w1 ⟨rfl, hb1⟩
 have HB1 := Lib.hid (hb1.alloc hb1.size (.cells #[.string a, .string nn, .string ⟨#[48]⟩] 22))
 have hc := strs_cells3 w1 a nn ⟨#[48]⟩
 have HLo := Lib.hid (long3_no w1.heap.size a nn ⟨#[48]⟩ _ SA.out SN.out SD.out hc)
 clear hb1 hc
 go_wp2_with fail
 refine HLo.out.mono ?_
 rintro e w' ⟨rfl, rfl⟩
 go_wp2_with fail
 refine (M1.out _ (HT.out.on HB1.out)).mono ?_
 rintro e w2 ⟨rfl, hb⟩
 have HB2 := Lib.hid (HB1.out.trans (hb.mono HB1.out.size))
 clear hb
 go_wp2_with fail
 refine (M2.out _).mono ?_
 rintro e w3 ⟨rfl, hb⟩
 have HB3 := Lib.hid (HB2.out.trans (hb.mono HB2.out.size))
 clear hb
 go_wp2_with fail
 refine (P1.out _ (HT.out.on HB3.out)).mono ?_
 rintro e w4 ⟨rfl, hb⟩
 have HB4 := Lib.hid (HB3.out.trans (hb.mono HB3.out.size))
 clear hb
 go_wp2_with fail
 refine (P2.out _).mono ?_
 rintro e w5 ⟨rfl, hb⟩
 have HB5 := Lib.hid (HB4.out.trans (hb.mono HB4.out.size))
 clear hb
 go_wp2_with fail
 refine (V1.out _ (HT.out.on HB5.out)).mono ?_
 rintro e w6 ⟨rfl, hb⟩
 have HB6 := Lib.hid (HB5.out.trans (hb.mono HB5.out.size))
 clear hb
 go_wp2_with fail
 refine (V2.out _).mono ?_
 rintro e w7 ⟨rfl, hb⟩
 have HB7 := Lib.hid (HB6.out.trans (hb.mono HB6.out.size))
 clear hb
 go_wp2
 go_ret
 exact ⟨rfl, HB7.out⟩
theorem qform_n4 (a : ByteArray) (sa : a.size ≤ 60) (va : vldQ a.data.toList = false) (n d : Int) (sn : (Sz n).size ≤ 60) (sd : (Sz d).size ≤ 60) (hd0 : d ≠ 0) (w : World) (hl : La w) :
 Calls Tryz.prog 3 #[.string a, .string (Sz n), .string (Sz d)] w fun e w' => e = .returned (.bool true) ∧ Below w.heap.size w w' := by
 have HT := Lib.hid hl
 clear hl
 have P1 := Lib.hid (fun (W : World) (T : La W) => qparts_no a va (by omega) W T)
 have P2 := Lib.hid (fun (W : World) => srParts_no a va (by omega) W)
 have V1 := Lib.hid (fun (W : World) (T : La W) => qvalid_no a va (by omega) W T)
 have V2 := Lib.hid (fun (W : World) => by have h := srValid a (by omega) W; rwa [va] at h : ∀ W : World, Calls Tryz.prog 14 #[.string a] W fun e w' => e = .returned (.bool false) ∧ Below W.heap.size W w')
 have SA := Lib.hid sa
 clear sa va
 obtain ⟨q, hq⟩ : ∃ q, Rat.divInt n d = q := ⟨_, rfl⟩
 have M1 := Lib.hid (fun (W : World) (T : La W) => fo_make n d q hq hd0 sn sd W T)
 have M2 := Lib.hid (fun (W : World) => srMake n d q hq hd0 (fo_fit sn).2 (fo_fit sd).2 W)
 clear hq hd0
 generalize Sz n = nn at *
 generalize Sz d = dd at *
 generalize Sq q = qq at *
 have SN := Lib.hid sn
 have SD := Lib.hid sd
 clear sn sd
 go_enter Tryz.func3, Tryz.ntmps3
 go_wp2_with fail
 refine (qawake _ HT.out).mono ?_
 rintro e w1 ⟨rfl, hb1⟩
 have HB1 := Lib.hid (hb1.alloc hb1.size (.cells #[.string a, .string nn, .string dd] 22))
 have hc := strs_cells3 w1 a nn dd
 have HLo := Lib.hid (long3_no w1.heap.size a nn dd _ SA.out SN.out SD.out hc)
 clear hb1 hc
 go_wp2_with fail
 refine HLo.out.mono ?_
 rintro e w' ⟨rfl, rfl⟩
 go_wp2_with fail
 refine (M1.out _ (HT.out.on HB1.out)).mono ?_
 rintro e w2 ⟨rfl, hb⟩
 have HB2 := Lib.hid (HB1.out.trans (hb.mono HB1.out.size))
 clear hb
 go_wp2_with fail
 refine (M2.out _).mono ?_
 rintro e w3 ⟨rfl, hb⟩
 have HB3 := Lib.hid (HB2.out.trans (hb.mono HB2.out.size))
 clear hb
 go_wp2_with fail
 refine (P1.out _ (HT.out.on HB3.out)).mono ?_
 rintro e w4 ⟨rfl, hb⟩
 have HB4 := Lib.hid (HB3.out.trans (hb.mono HB3.out.size))
 clear hb
 go_wp2_with fail
 refine (P2.out _).mono ?_
 rintro e w5 ⟨rfl, hb⟩
 have HB5 := Lib.hid (HB4.out.trans (hb.mono HB4.out.size))
 clear hb
 go_wp2_with fail
 refine (V1.out _ (HT.out.on HB5.out)).mono ?_
 rintro e w6 ⟨rfl, hb⟩
 have HB6 := Lib.hid (HB5.out.trans (hb.mono HB5.out.size))
 clear hb
 go_wp2_with fail
 refine (V2.out _).mono ?_
 rintro e w7 ⟨rfl, hb⟩
 have HB7 := Lib.hid (HB6.out.trans (hb.mono HB6.out.size))
 clear hb
 go_wp2
 go_ret
 exact ⟨rfl, HB7.out⟩
theorem qform_y (x : Rat) (sa : (Sq x).size ≤ 60) (n d : ByteArray) (hn : n.size ≤ 60) (hd : d.size ≤ 60) (w : World) (hl : La w) :
 Calls Tryz.prog 3 #[.string (Sq x), .string n, .string d] w fun e w' => e = .returned (.bool true) ∧ Below w.heap.size w w' := by
 cases vn : vldZ n.data.toList with
 | false => exact qform_y1 x sa n d hn hd vn w hl
 | true =>
   have en := sz_of vn
   generalize zval n.data.toList = n' at en
   subst en
   cases vd : vldZ d.data.toList with
   | false => exact qform_y2 x sa n' d hn hd vd w hl
   | true =>
     have ed := sz_of vd
     generalize zval d.data.toList = d' at ed
     subst ed
     by_cases hd0 : d' = 0
     · subst hd0
       rw [sz_zero]
       exact qform_y3 x sa n' hn w hl
     · exact qform_y4 x sa n' d' hn hd hd0 w hl
theorem qform_n (a : ByteArray) (sa : a.size ≤ 60) (va : vldQ a.data.toList = false) (n d : ByteArray) (hn : n.size ≤ 60) (hd : d.size ≤ 60) (w : World) (hl : La w) :
 Calls Tryz.prog 3 #[.string a, .string n, .string d] w fun e w' => e = .returned (.bool true) ∧ Below w.heap.size w w' := by
 cases vn : vldZ n.data.toList with
 | false => exact qform_n1 a sa va n d hn hd vn w hl
 | true =>
   have en := sz_of vn
   generalize zval n.data.toList = n' at en
   subst en
   cases vd : vldZ d.data.toList with
   | false => exact qform_n2 a sa va n' d hn hd vd w hl
   | true =>
     have ed := sz_of vd
     generalize zval d.data.toList = d' at ed
     subst ed
     by_cases hd0 : d' = 0
     · subst hd0
       rw [sz_zero]
       exact qform_n3 a sa va n' hn w hl
     · exact qform_n4 a sa va n' d' hn hd hd0 w hl
theorem qform_any (a n d : ByteArray) (w : World) (hl : La w) :
 Calls Tryz.prog 3 #[.string a, .string n, .string d] w fun e w' => e = .returned (.bool true) ∧ Below w.heap.size w w' := by
 by_cases hlo : 60 < a.size ∨ 60 < n.size ∨ 60 < d.size
 · exact qform_long a n d hlo w hl
 · have ha : a.size ≤ 60 := by omega
   have hn : n.size ≤ 60 := by omega
   have hd : d.size ≤ 60 := by omega
   clear hlo
   cases va : vldQ a.data.toList with
   | false => exact qform_n a ha va n d hn hd w hl
   | true =>
     have ea := sq_of va
     generalize qval a.data.toList = x at ea
     subst ea
     exact qform_y x ha n d hn hd w hl
end Go.Proofs.YtmigpoiajkihhaaGreatDoor
