/- garboardref03.Decimal: walks over the contracts of what it calls. -/
import Derived.Test.YtmigpoiajkihhaaGreatDoorMz39q
import Derived.Test.YtmigpoiajkihhaaGreatDoorMz1q
import Derived.Test.YtmigpoiajkihhaaGreatDoorMz42q
import Derived.Test.YtmigpoiajkihhaaGreatDoorMz29q
import Derived.Deep.QuietTactic
import Derived.BigQuiet
open Go.Lib (hid)
namespace Go.Proofs.YtmigpoiajkihhaaGreatDoor
set_option maxRecDepth 100000
set_option maxHeartbeats 20000000
open Go.RowKit Go.Gb
def strLen:Value→Nat
 | .string s=>s.size
 | _=>0
def padS (k:Nat) (s:ByteArray):ByteArray:=⟨(Lib.repeatL [48] k ++ s.data.toList).toArray⟩
theorem padS_size (k:Nat) (s:ByteArray):(padS k s).size=k+s.size:=by
 unfold padS
 rw [← size_list]
 have h:∀ k:Nat,(Lib.repeatL [48] k).length=k:=by
  intro k
  induction k with
  | zero=>rfl
  | succ k ih=>simp [Lib.repeatL,ih]
 simp [h]
theorem padS_zero (s:ByteArray):padS 0 s=s:=by
 unfold padS
 apply ByteArray.ext;apply Array.ext'
 simp [Lib.repeatL]
theorem padS_succ (k:Nat) (s:ByteArray):(⟨#[48]⟩:ByteArray) ++ padS k s=padS (k+1) s:=by
 unfold padS
 apply ByteArray.ext;apply Array.ext'
 simp [Lib.repeatL]
theorem below_dr (w:World) (n:Nat):Below w.heap.size w (w.drewN n):=⟨rfl,rfl,rfl,Nat.le_refl _,fun _ _=>rfl⟩
theorem rdec_no (x1:ByteArray) (n n1:Int) (en1:Nat)  (w:World) (h1:∀ W,Calls Tryz.prog 44 #[.string x1] W fun e w'=>∃ p c s d,e=.returned (.tuple #[.agg #[.bool (zneg n1),.slice p (zlen n1) c,.slice s (nlen en1) d],.bool false])∧RN w' (.slice p (zlen n1) c) n1.natAbs∧RN w' (.slice s (nlen en1) d) en1∧Below W.heap.size W w')  :
 CR 28 #[.string x1,.int .i64 n] w (.tuple #[.string ⟨#[]⟩,.int .i64 1]):=by
 have C1:=hid h1
 clear h1
 go_enter Tryz.func28,Tryz.ntmps28
 have HB0:=hid (Below.refl w.heap.size w)
 go_wp2_with fail
 with_reducible refine (C1.out _).mono ?_
 rintro e W1 ⟨pa_1,ca_1,sa_1,da_1,rfl,r1_0,r1_1,hb⟩
 have HB1:=hid (HB0.out.trans (hb.mono HB0.out.size))
 have RA:=hid r1_0
 have TA:=hid r1_1
 clear hb r1_0 r1_1
 go_upto_region 2 with fail
 refine wp_boxes W1 [(#[.bool (zneg (n1)),.slice pa_1 (zlen (n1)) ca_1,.slice sa_1 (nlen (en1)) da_1],55)] rfl ?_
 have L1:=HB1.out.size
 rintro W2 ⟨k1,hb⟩
 have hb:Below W1.heap.size W1 W2:=hb
 have HB2:=hid (HB1.out.trans (hb.mono HB1.out.size))
 have K1:=hid k1
 clear k1 hb
 go_wp2
 exact bodyPost_ret (v:=.tuple #[.string ⟨#[]⟩,.int .i64 1]) (by simp [results,Tryz.results28,go_sem]) rfl ⟨rfl,HB2.out⟩
theorem rdec_neg (x1:ByteArray) (n n1:Int) (en1:Nat) (hn:n<0)  (w:World) (h1:∀ W,Calls Tryz.prog 44 #[.string x1] W fun e w'=>∃ p c s d,e=.returned (.tuple #[.agg #[.bool (zneg n1),.slice p (zlen n1) c,.slice s (nlen en1) d],.bool true])∧RN w' (.slice p (zlen n1) c) n1.natAbs∧RN w' (.slice s (nlen en1) d) en1∧Below W.heap.size W w')  :
 CR 28 #[.string x1,.int .i64 n] w (.tuple #[.string ⟨#[]⟩,.int .i64 2]):=by
 have C1:=hid h1
 have t0:decide (n<0)=true:=decide_eq_true hn
 have t1:n<0:=hn
 clear hn
 clear h1
 go_enter Tryz.func28,Tryz.ntmps28
 have HB0:=hid (Below.refl w.heap.size w)
 go_wp2_with fail
 with_reducible refine (C1.out _).mono ?_
 rintro e W1 ⟨pa_1,ca_1,sa_1,da_1,rfl,r1_0,r1_1,hb⟩
 have HB1:=hid (HB0.out.trans (hb.mono HB0.out.size))
 have RA:=hid r1_0
 have TA:=hid r1_1
 clear hb r1_0 r1_1
 go_upto_region 2 with fail
 refine wp_boxes W1 [(#[.bool (zneg (n1)),.slice pa_1 (zlen (n1)) ca_1,.slice sa_1 (nlen (en1)) da_1],55)] rfl ?_
 have L1:=HB1.out.size
 rintro W2 ⟨k1,hb⟩
 have hb:Below W1.heap.size W1 W2:=hb
 have HB2:=hid (HB1.out.trans (hb.mono HB1.out.size))
 have K1:=hid k1
 clear k1 hb
 go_wp2
 exact bodyPost_ret (v:=.tuple #[.string ⟨#[]⟩,.int .i64 2]) (by simp [results,Tryz.results28,go_sem]) rfl ⟨rfl,HB2.out⟩
theorem rdec_big (x1:ByteArray) (n n1:Int) (en1:Nat) (hn:64<n)  (w:World) (h1:∀ W,Calls Tryz.prog 44 #[.string x1] W fun e w'=>∃ p c s d,e=.returned (.tuple #[.agg #[.bool (zneg n1),.slice p (zlen n1) c,.slice s (nlen en1) d],.bool true])∧RN w' (.slice p (zlen n1) c) n1.natAbs∧RN w' (.slice s (nlen en1) d) en1∧Below W.heap.size W w')  :
 CR 28 #[.string x1,.int .i64 n] w (.tuple #[.string ⟨#[]⟩,.int .i64 2]):=by
 have C1:=hid h1
 have t0:decide (n<0)=false:=decide_eq_false (by omega)
 have t1:¬ n<0:=by omega
 have t2:decide (64<n)=true:=decide_eq_true hn
 have t3:64<n:=hn
 clear hn
 clear h1
 go_enter Tryz.func28,Tryz.ntmps28
 have HB0:=hid (Below.refl w.heap.size w)
 go_wp2_with fail
 with_reducible refine (C1.out _).mono ?_
 rintro e W1 ⟨pa_1,ca_1,sa_1,da_1,rfl,r1_0,r1_1,hb⟩
 have HB1:=hid (HB0.out.trans (hb.mono HB0.out.size))
 have RA:=hid r1_0
 have TA:=hid r1_1
 clear hb r1_0 r1_1
 go_upto_region 2 with fail
 refine wp_boxes W1 [(#[.bool (zneg (n1)),.slice pa_1 (zlen (n1)) ca_1,.slice sa_1 (nlen (en1)) da_1],55)] rfl ?_
 have L1:=HB1.out.size
 rintro W2 ⟨k1,hb⟩
 have hb:Below W1.heap.size W1 W2:=hb
 have HB2:=hid (HB1.out.trans (hb.mono HB1.out.size))
 have K1:=hid k1
 clear k1 hb
 go_wp2
 exact bodyPost_ret (v:=.tuple #[.string ⟨#[]⟩,.int .i64 2]) (by simp [results,Tryz.results28,go_sem]) rfl ⟨rfl,HB2.out⟩
def bodyT (s:ByteArray) (n:Nat):ByteArray:=if n=0 then padS (1 - s.size) s else (padS (n+1 - s.size) s).extract 0 ((padS (n+1 - s.size) s).size - n) ++ ⟨#[46]⟩ ++ (padS (n+1 - s.size) s).extract ((padS (n+1 - s.size) s).size - n) (padS (n+1 - s.size) s).size
def decT (neg:Bool) (l:Nat) (s:ByteArray) (n:Nat):ByteArray:=if neg=true∧0<l then ⟨#[45]⟩ ++ bodyT s n else bodyT s n
theorem bodyT_size (s:ByteArray) (n:Nat):(bodyT s n).size≤s.size+n+3:=by
 unfold bodyT
 split
 · rw [padS_size];omega
 · rw [ByteArray.size_append,ByteArray.size_append,ByteArray.size_extract,ByteArray.size_extract,padS_size]
   have e:(⟨#[46]⟩:ByteArray).size=1:=rfl
   omega
theorem rdec_raw (x1 s0:ByteArray) (n1 a1 tz ym yh ys z:Int) (en1 nn ten tn one dm dh ds:Nat) (r:ByteArray) (hn64:nn≤64) (hs0:s0.size≤100000)
 (hr:r=decT (zneg n1) (zlen z) s0 nn) (w:World) (h1:∀ W,Calls Tryz.prog 44 #[.string x1] W fun e w'=>∃ p c s d,e=.returned (.tuple #[.agg #[.bool (zneg n1),.slice p (zlen n1) c,.slice s (nlen en1) d],.bool true])∧RN w' (.slice p (zlen n1) c) n1.natAbs∧RN w' (.slice s (nlen en1) d) en1∧Below W.heap.size W w')
 (h2:∀ W,CN 63 #[.int .u32 10] W ten)
 (h3:∀ s1 d1 W,RN W (.slice s1 (nlen ten) d1) ten→CN 62 #[.slice s1 (nlen ten) d1,.int .i64 (nn:Int)] W tn)
 (h4:∀ p2 c2 W,RN W (.slice p2 (zlen n1) c2) n1.natAbs→CZ 41 #[.bool false,.slice p2 (zlen n1) c2] W a1)
 (h5:∀ s2 d2 W,RN W (.slice s2 (nlen tn) d2) tn→CZ 41 #[.bool false,.slice s2 (nlen tn) d2] W tz)
 (h6:∀ W,CN 63 #[.int .u32 1] W one)
 (h7:∀ p1 c1 s1 d1 p2 c2 s2 d2 W,RN W (.slice p1 (zlen a1) c1) a1.natAbs→RN W (.slice s1 (nlen en1) d1) en1→RN W (.slice p2 (zlen tz) c2) tz.natAbs→RN W (.slice s2 (nlen one) d2) one→CF 52 #[.agg #[.bool (zneg a1),.slice p1 (zlen a1) c1,.slice s1 (nlen en1) d1],.agg #[.bool (zneg tz),.slice p2 (zlen tz) c2,.slice s2 (nlen one) d2]] W ym dm)
 (h8:∀ W,CF 64 #[.int .i64 1,.int .i64 2] W yh dh)
 (h9:∀ p1 c1 s1 d1 p2 c2 s2 d2 W,RN W (.slice p1 (zlen ym) c1) ym.natAbs→RN W (.slice s1 (nlen dm) d1) dm→RN W (.slice p2 (zlen yh) c2) yh.natAbs→RN W (.slice s2 (nlen dh) d2) dh→CF 50 #[.agg #[.bool (zneg ym),.slice p1 (zlen ym) c1,.slice s1 (nlen dm) d1],.agg #[.bool (zneg yh),.slice p2 (zlen yh) c2,.slice s2 (nlen dh) d2]] W ys ds)
 (h10:∀ p1 c1 s1 d1 W,RN W (.slice p1 (zlen ys) c1) ys.natAbs→RN W (.slice s1 (nlen ds) d1) ds→CZ 57 #[.agg #[.bool (zneg ys),.slice p1 (zlen ys) c1,.slice s1 (nlen ds) d1]] W z)
 (h11:∀ p1 c1 W,RN W (.slice p1 (zlen z) c1) z.natAbs→CR 65 #[.slice p1 (zlen z) c1] W (.string s0)) :
 CR 28 #[.string x1,.int .i64 (nn:Int)] w (.tuple #[.string r,.int .i64 0]):=by
 have C1:=hid h1
 have C2:=hid h2
 have C3:=hid h3
 have C4:=hid h4
 have C5:=hid h5
 have C6:=hid h6
 have C7:=hid h7
 have C8:=hid h8
 have C9:=hid h9
 have C10:=hid h10
 have C11:=hid h11
 have t0:decide ((nn:Int)<0)=false:=decide_eq_false (by omega)
 have t1:¬ (nn:Int)<0:=by omega
 have t2:decide ((64:Int)<(nn:Int))=false:=decide_eq_false (by omega)
 have t3:¬ (64:Int)<(nn:Int):=by omega
 have HR:=hid hr
 have HN:=hid hn64
 have HS:=hid hs0
 clear hr hn64 hs0 h1 h2 h3 h4 h5 h6 h7 h8 h9 h10 h11
 go_enter Tryz.func28,Tryz.ntmps28
 have HB0:=hid (Below.refl w.heap.size w)
 go_wp2_with fail
 with_reducible refine (C1.out _).mono ?_
 rintro e W1 ⟨pa_1,ca_1,sa_1,da_1,rfl,r1_0,r1_1,hb⟩
 have HB1:=hid (HB0.out.trans (hb.mono HB0.out.size))
 have RA:=hid r1_0
 have TA:=hid r1_1
 clear hb r1_0 r1_1
 go_upto_region 2 with fail
 refine wp_boxes W1 [(#[.bool (zneg (n1)),.slice pa_1 (zlen (n1)) ca_1,.slice sa_1 (nlen (en1)) da_1],55)] rfl ?_
 have L1:=HB1.out.size
 rintro W2 ⟨k1,hb⟩
 have hb:Below W1.heap.size W1 W2:=hb
 have RA:=hid (RA.out.below hb)
 have TA:=hid (TA.out.below hb)
 have HB2:=hid (HB1.out.trans (hb.mono HB1.out.size))
 have K1:=hid k1
 clear k1 hb
 go_wp2_with fail
 with_reducible refine (C2.out _).mono ?_
 rintro e W3 ⟨p_2,c_2,rfl,r2_0,hb⟩
 have K1:=hid (K1.out.below hb)
 have RA:=hid (RA.out.below hb)
 have TA:=hid (TA.out.below hb)
 have HB3:=hid (HB2.out.trans (hb.mono HB2.out.size))
 have RT:=hid r2_0
 clear hb r2_0
 go_wp2_with fail
 with_reducible refine (C3.out _ _ _ RT.out).mono ?_
 rintro e W4 ⟨p_3,c_3,rfl,r3_0,hb⟩
 have K1:=hid (K1.out.below hb)
 have RA:=hid (RA.out.below hb)
 have TA:=hid (TA.out.below hb)
 have RT:=hid (RT.out.below hb)
 have HB4:=hid (HB3.out.trans (hb.mono HB3.out.size))
 have RP:=hid r3_0
 clear hb r3_0
 go_wp2_with fail
 have L2:=K1.out.lt
 have L3:=HB4.out.size
 refine wp_region_post (fun a0 a' V=>∃ pw1_3 cw1_3 paw1_6 caw1_6 gw1_7,a'=⟨putL [(28,.pointer (some ⟨W1.heap.size,0,none⟩)),(29,.pointer (some ⟨W1.heap.size,1,none⟩)),(30,.slice pa_1 (zlen (n1)) ca_1),(31,.agg #[.bool (zneg a1),.slice pw1_3 (zlen a1) cw1_3]),(32,.pointer (some ⟨W1.heap.size,2,none⟩)),(33,.slice sa_1 (nlen (en1)) da_1),(34,.agg #[.bool (zneg a1),.slice paw1_6 (zlen a1) caw1_6,.slice sa_1 (nlen (en1)) da_1]),(9,.pointer (some ⟨gw1_7,0,none⟩))] a0.tmps,a0.defers⟩∧Below w.heap.size w V∧SBk V (W1.heap.size) #[.bool (zneg (n1)),.slice pa_1 (zlen (n1)) ca_1,.slice sa_1 (nlen (en1)) da_1] 55∧SBk V (gw1_7) #[.bool (zneg a1),.slice paw1_6 (zlen a1) caw1_6,.slice sa_1 (nlen (en1)) da_1] 55∧RN V (.slice pa_1 (zlen (n1)) ca_1) (n1).natAbs∧RN V (.slice sa_1 (nlen (en1)) da_1) (en1)∧RN V (.slice p_2 (nlen ten) c_2) ten∧RN V (.slice p_3 (nlen tn) c_3) tn∧RN V (.slice pw1_3 (zlen a1) cw1_3) a1.natAbs∧RN V (.slice paw1_6 (zlen a1) caw1_6) a1.natAbs∧W4.heap.size≤gw1_7) ?_ ?_
 · refine wp_region_tail_d (by kernel_rfl) 8 1 (fun i=>[28,29,30,31,32,33,34,9].getD i 0) (RelR [Rel.val (.pointer (some ⟨W1.heap.size,0,none⟩)),Rel.val (.pointer (some ⟨W1.heap.size,1,none⟩)),Rel.val (.slice pa_1 (zlen (n1)) ca_1),Rel.int a1,Rel.val (.pointer (some ⟨W1.heap.size,2,none⟩)),Rel.val (.slice sa_1 (nlen (en1)) da_1),⟨fun v W=>∃ pa ca,v=.agg #[.bool (zneg a1),.slice pa (zlen a1) ca,.slice sa_1 (nlen (en1)) da_1]∧RN W (.slice pa (zlen a1) ca) a1.natAbs,fun _ _ _ ⟨pa,ca,e,h0⟩ hb=>⟨pa,ca,e,h0.below hb⟩⟩,Rel.ptr W4.heap.size (.cells #[.bool false,.slice none 0 0,.slice none 0 0] 55)]) (fun W=>Below W4.heap.size W4 W) (fun _ _=>True) (by kernel_rfl) (by kernel_rfl) (by kernel_rfl) trivial (Below.refl _ _).drew ?_ ?_
   · intro listed a W i hI hD hrd him
     have HI:=hid hI
     have HD:=hid hD
     have Hr:=hid hrd
     clear hI hrd hD
     have y6:a.tmps[6]? = some (.pointer (some ⟨W1.heap.size,0,none⟩)):=HI.out.rest 6 (by decide)
     have dK11:=(K1.out.below HI.out.world).cell (i:=1) rfl
     have dK12:=(K1.out.below HI.out.world).cell (i:=2) rfl
     have X0:RV _ listed a 0 28 (.pointer (some ⟨W1.heap.size,0,none⟩)):=HI.out.rh
     have X1:RV _ listed a 1 29 (.pointer (some ⟨W1.heap.size,1,none⟩)):=HI.out.rh
     have X2:RV _ listed a 2 30 (.slice pa_1 (zlen (n1)) ca_1):=HI.out.rh
     have X4:RV _ listed a 4 32 (.pointer (some ⟨W1.heap.size,2,none⟩)):=HI.out.rh
     have X5:RV _ listed a 5 33 (.slice sa_1 (nlen (en1)) da_1):=HI.out.rh
     match i,him,Hr with
     | 0,_,Hi =>
       refine stepH rfl fun K' hK=>?_
       go_simp
       exact hK.out _ _ ⟨HI.out.pv Hi.out rfl,trivial⟩
     | 1,_,Hi =>
       have x0:=X0.g Hi.out (by kernel_rfl)
       refine stepH rfl fun K' hK=>?_
       go_simp
       exact hK.out _ _ ⟨HI.out.pv Hi.out rfl,trivial⟩
     | 2,_,Hi =>
       have x1:=X1.g Hi.out (by kernel_rfl)
       refine stepH rfl fun K' hK=>?_
       go_simp
       exact hK.out _ _ ⟨HI.out.pv Hi.out rfl,trivial⟩
     | 3,_,Hi =>
       have x2:=X2.g Hi.out (by kernel_rfl)
       refine stepH rfl fun K' hK=>?_
       go_simp
       with_reducible refine (C4.out _ _ _ (RA.out.below HI.out.world)).mono ?_
       rintro e W' ⟨pw1_3,cw1_3,rfl,rrw1_3,hb⟩
       exact hK.out _ _ ⟨HI.out.pc Hi.out hb ⟨pw1_3,cw1_3,rfl,rrw1_3⟩,trivial⟩
     | 4,_,Hi =>
       refine stepH rfl fun K' hK=>?_
       go_simp
       exact hK.out _ _ ⟨HI.out.pv Hi.out rfl,trivial⟩
     | 5,_,Hi =>
       have x4:=X4.g Hi.out (by kernel_rfl)
       refine stepH rfl fun K' hK=>?_
       go_simp
       exact hK.out _ _ ⟨HI.out.pv Hi.out rfl,trivial⟩
     | 6,_,Hi =>
       obtain ⟨v',x3,pw1_3,cw1_3,e,rrw1_3⟩:=HI.out.at (i:=3) Hi.out (by kernel_rfl) (by decide)
       obtain rfl:=e
       have x3:a.tmps[31]? = some (.agg #[.bool (zneg a1),.slice pw1_3 (zlen a1) cw1_3]):=x3
       have RRW1_3:=hid rrw1_3
       clear rrw1_3
       have x5:=X5.g Hi.out (by kernel_rfl)
       refine stepH rfl fun K' hK=>?_
       go_simp
       exact hK.out _ _ ⟨HI.out.pv Hi.out ⟨pw1_3,cw1_3,rfl,RRW1_3.out⟩,trivial⟩
     | 7,_,Hi =>
       refine stepH rfl fun K' hK=>?_
       go_simp
       exact hK.out _ _ ⟨HI.out.pc Hi.out ((Below.refl W.heap.size W).alloc (Nat.le_refl _) (.cells #[.bool false,.slice none 0 0,.slice none 0 0] 55)) ⟨W.heap.size,rfl,HI.out.world.size,SBk.new _ _ _⟩,trivial⟩
     | n+8,h,_=>exact absurd h (by omega)
   · intro listed a W hI hD hall
     obtain ⟨v',x3,pw1_3,cw1_3,e,rrw1_3⟩:=hI.slots 3 (by decide) (hall 3 (by decide))
     obtain rfl:=e
     have RRW1_3:=hid rrw1_3
     clear rrw1_3
     obtain ⟨v',x6,paw1_6,caw1_6,e,rrw1_6⟩:=hI.slots 6 (by decide) (hall 6 (by decide))
     obtain rfl:=e
     have RRW1_6:=hid rrw1_6
     clear rrw1_6
     have x6:a.tmps[34]? = some (.agg #[.bool (zneg a1),.slice paw1_6 (zlen a1) caw1_6,.slice sa_1 (nlen (en1)) da_1]):=x6
     obtain ⟨v',x7,gw1_7,e,rrw1_7,rrw1_7_1⟩:=hI.slots 7 (by decide) (hall 7 (by decide))
     obtain rfl:=e
     have RRW1_7:=hid rrw1_7
     clear rrw1_7
     have RRW1_7_1:=hid rrw1_7_1
     clear rrw1_7_1
     have x7:a.tmps[9]? = some (.pointer (some ⟨gw1_7,0,none⟩)):=x7
     have HBW:=hid hI.world
     have HI:=hid hI
     have HA:=hid hall
     clear hI hall
     have K1:=hid (K1.out.below HBW.out)
     have RA:=hid (RA.out.below HBW.out)
     have TA:=hid (TA.out.below HBW.out)
     have RT:=hid (RT.out.below HBW.out)
     have RP:=hid (RP.out.below HBW.out)
     have HBX:=hid (HB4.out.trans (HBW.out.mono HB4.out.size))
     have RB:=RRW1_3
     have RBb:=RRW1_6
     have K2:Hid (SBk W gw1_7 #[.bool false,.slice none 0 0,.slice none 0 0] 55):=RRW1_7_1
     have dK20:=K2.out.cell (i:=0) rfl
     have fK20:=K2.out.frozen (i:=0)
     have dK21:=K2.out.cell (i:=1) rfl
     have fK21:=K2.out.frozen (i:=1)
     have dK22:=K2.out.cell (i:=2) rfl
     have fK22:=K2.out.frozen (i:=2)
     refine tail_succ (t:=0) ?_
     refine stepH rfl fun K' hK=>?_
     go_simp
     refine hK.out _ _ ?_
     clear hK
     refine tail_nil ?_
     have s0:∀ {v':Value} {n':Nat},RN W v' n'→RN (storeAll W (gw1_7) 0 [.bool (zneg a1),.slice paw1_6 (zlen a1) caw1_6,.slice sa_1 (nlen (en1)) da_1]) v' n':=fun h'=>store_rn _ h' K2.out (by simp [noInt]) (by simp [plainV])
     have o0:∀ {g':Nat} {cs':Array Value} {T':TypeId},g'≠gw1_7→SBk W g' cs' T'→SBk (storeAll W (gw1_7) 0 [.bool (zneg a1),.slice paw1_6 (zlen a1) caw1_6,.slice sa_1 (nlen (en1)) da_1]) g' cs' T':=fun hg' h'=>store_off hg' _ 0 h'
     exact ⟨rfl,pw1_3,cw1_3,paw1_6,caw1_6,gw1_7,(HI.out.finx ⟨HI.out.sx HA.out 0,HI.out.sx HA.out 1,HI.out.sx HA.out 2,x3,HI.out.sx HA.out 4,HI.out.sx HA.out 5,x6,x7,trivial⟩ rfl),(store_below (l:=[.bool (zneg a1),.slice paw1_6 (zlen a1) caw1_6,.slice sa_1 (nlen (en1)) da_1]) (i:=0) (by have:=RRW1_7.out;omega) HBX.out),(o0 (by have:=RRW1_7.out;omega) K1.out),(store_blk (l:=[.bool (zneg a1),.slice paw1_6 (zlen a1) caw1_6,.slice sa_1 (nlen (en1)) da_1]) (i:=0) K2.out),(s0 RA.out),(s0 TA.out),(s0 RT.out),(s0 RP.out),(s0 RB.out),(s0 RBb.out),RRW1_7.out⟩
 rintro a' W5 ⟨pw1_3,cw1_3,paw1_6,caw1_6,gw1_7,rfl,z0,z1,z2,z3,z4,z5,z6,z7,z8,z9⟩
 have HB5:=hid z0
 have K1:=hid z1
 have K2:=hid z2
 have RA:=hid z3
 have TA:=hid z4
 have RT:=hid z5
 have RP:=hid z6
 have RB:=hid z7
 have RBb:=hid z8
 have R7xW5:=z9
 clear z0 z1 z2 z3 z4 z5 z6 z7 z8 z9
 simp only [putL,List.setIfInBounds_toArray,List.set_cons_zero,List.set_cons_succ]
 go_wp2_with fail
 have L5:=K1.out.lt
 have L6:=K2.out.lt
 have L7:=HB5.out.size
 refine wp_region_post (fun a0 a' V=>∃ pw2_2 cw2_2 pw2_3 cw2_3 paw2_4 caw2_4 pbw2_4 cbw2_4 pw2_5 cw2_5 sw2_5 dw2_5 pw2_6 cw2_6 sw2_6 dw2_6 pw2_7 cw2_7 sw2_7 dw2_7 pw2_8 cw2_8 gw2_9,a'=⟨putL [(35,.agg #[.bool (zneg a1),.slice paw1_6 (zlen a1) caw1_6,.slice sa_1 (nlen (en1)) da_1]),(36,.slice p_3 (nlen tn) c_3),(37,.agg #[.bool (zneg tz),.slice pw2_2 (zlen tz) cw2_2]),(38,.slice pw2_3 (nlen one) cw2_3),(39,.agg #[.bool (zneg tz),.slice paw2_4 (zlen tz) caw2_4,.slice pbw2_4 (nlen one) cbw2_4]),(40,.agg #[.bool (zneg (ym)),.slice pw2_5 (zlen (ym)) cw2_5,.slice sw2_5 (nlen (dm)) dw2_5]),(41,.agg #[.bool (zneg (yh)),.slice pw2_6 (zlen (yh)) cw2_6,.slice sw2_6 (nlen (dh)) dw2_6]),(42,.agg #[.bool (zneg (ys)),.slice pw2_7 (zlen (ys)) cw2_7,.slice sw2_7 (nlen (ds)) dw2_7]),(43,.agg #[.bool (zneg z),.slice pw2_8 (zlen z) cw2_8]),(10,.pointer (some ⟨gw2_9,0,none⟩))] a0.tmps,a0.defers⟩∧Below w.heap.size w V∧SBk V (W1.heap.size) #[.bool (zneg (n1)),.slice pa_1 (zlen (n1)) ca_1,.slice sa_1 (nlen (en1)) da_1] 55∧SBk V (gw1_7) #[.bool (zneg a1),.slice paw1_6 (zlen a1) caw1_6,.slice sa_1 (nlen (en1)) da_1] 55∧SBk V (gw2_9) #[.bool (zneg z),.slice pw2_8 (zlen z) cw2_8] 50∧RN V (.slice pa_1 (zlen (n1)) ca_1) (n1).natAbs∧RN V (.slice sa_1 (nlen (en1)) da_1) (en1)∧RN V (.slice p_2 (nlen ten) c_2) ten∧RN V (.slice p_3 (nlen tn) c_3) tn∧RN V (.slice pw1_3 (zlen a1) cw1_3) a1.natAbs∧RN V (.slice paw1_6 (zlen a1) caw1_6) a1.natAbs∧RN V (.slice pw2_2 (zlen tz) cw2_2) tz.natAbs∧RN V (.slice pw2_3 (nlen one) cw2_3) one∧RN V (.slice paw2_4 (zlen tz) caw2_4) tz.natAbs∧RN V (.slice pbw2_4 (nlen one) cbw2_4) one∧RN V (.slice pw2_5 (zlen (ym)) cw2_5) (ym).natAbs∧RN V (.slice sw2_5 (nlen (dm)) dw2_5) (dm)∧RN V (.slice pw2_6 (zlen (yh)) cw2_6) (yh).natAbs∧RN V (.slice sw2_6 (nlen (dh)) dw2_6) (dh)∧RN V (.slice pw2_7 (zlen (ys)) cw2_7) (ys).natAbs∧RN V (.slice sw2_7 (nlen (ds)) dw2_7) (ds)∧RN V (.slice pw2_8 (zlen z) cw2_8) z.natAbs∧W5.heap.size≤gw2_9) ?_ ?_
 · refine wp_region_tail_d (by kernel_rfl) 10 1 (fun i=>[35,36,37,38,39,40,41,42,43,10].getD i 0) (RelR [Rel.val (.agg #[.bool (zneg a1),.slice paw1_6 (zlen a1) caw1_6,.slice sa_1 (nlen (en1)) da_1]),Rel.val (.slice p_3 (nlen tn) c_3),Rel.int tz,Rel.nat one,⟨fun v W=>∃ pa ca pb cb,v=.agg #[.bool (zneg tz),.slice pa (zlen tz) ca,.slice pb (nlen one) cb]∧RN W (.slice pa (zlen tz) ca) tz.natAbs∧RN W (.slice pb (nlen one) cb) one,fun _ _ _ ⟨pa,ca,pb,cb,e,h0,h1⟩ hb=>⟨pa,ca,pb,cb,e,h0.below hb,h1.below hb⟩⟩,⟨fun v W=>∃ p c s d,v=.agg #[.bool (zneg (ym)),.slice p (zlen (ym)) c,.slice s (nlen (dm)) d]∧RN W (.slice p (zlen (ym)) c) (ym).natAbs∧RN W (.slice s (nlen (dm)) d) (dm),fun _ _ _ ⟨p,c,s,d,e,h0,h1⟩ hb=>⟨p,c,s,d,e,h0.below hb,h1.below hb⟩⟩,⟨fun v W=>∃ p c s d,v=.agg #[.bool (zneg (yh)),.slice p (zlen (yh)) c,.slice s (nlen (dh)) d]∧RN W (.slice p (zlen (yh)) c) (yh).natAbs∧RN W (.slice s (nlen (dh)) d) (dh),fun _ _ _ ⟨p,c,s,d,e,h0,h1⟩ hb=>⟨p,c,s,d,e,h0.below hb,h1.below hb⟩⟩,⟨fun v W=>∃ p c s d,v=.agg #[.bool (zneg (ys)),.slice p (zlen (ys)) c,.slice s (nlen (ds)) d]∧RN W (.slice p (zlen (ys)) c) (ys).natAbs∧RN W (.slice s (nlen (ds)) d) (ds),fun _ _ _ ⟨p,c,s,d,e,h0,h1⟩ hb=>⟨p,c,s,d,e,h0.below hb,h1.below hb⟩⟩,Rel.int z,Rel.ptr W5.heap.size (.cells #[.bool false,.slice none 0 0] 50)]) (fun W=>Below W5.heap.size W5 W) (fun _ _=>True) (by kernel_rfl) (by kernel_rfl) (by kernel_rfl) trivial (Below.refl _ _).drew ?_ ?_
   · intro listed a W i hI hD hrd him
     have HI:=hid hI
     have HD:=hid hD
     have Hr:=hid hrd
     clear hI hrd hD
     have y9:a.tmps[9]? = some (.pointer (some ⟨gw1_7,0,none⟩)):=HI.out.rest 9 (by decide)
     have y8:a.tmps[8]? = some (.slice p_3 (nlen tn) c_3):=HI.out.rest 8 (by decide)
     have dK20:=(K2.out.below HI.out.world).cell (i:=0) rfl
     have dK21:=(K2.out.below HI.out.world).cell (i:=1) rfl
     have dK22:=(K2.out.below HI.out.world).cell (i:=2) rfl
     have X1:RV _ listed a 1 36 (.slice p_3 (nlen tn) c_3):=HI.out.rh
     have X0:RV _ listed a 0 35 (.agg #[.bool (zneg a1),.slice paw1_6 (zlen a1) caw1_6,.slice sa_1 (nlen (en1)) da_1]):=HI.out.rh
     match i,him,Hr with
     | 0,_,Hi =>
       refine stepH rfl fun K' hK=>?_
       go_simp
       exact hK.out _ _ ⟨HI.out.pv Hi.out rfl,trivial⟩
     | 1,_,Hi =>
       refine stepH rfl fun K' hK=>?_
       go_simp
       exact hK.out _ _ ⟨HI.out.pv Hi.out rfl,trivial⟩
     | 2,_,Hi =>
       have x1:=X1.g Hi.out (by kernel_rfl)
       refine stepH rfl fun K' hK=>?_
       go_simp
       with_reducible refine (C5.out _ _ _ (RP.out.below HI.out.world)).mono ?_
       rintro e W' ⟨pw2_2,cw2_2,rfl,rrw2_2,hb⟩
       exact hK.out _ _ ⟨HI.out.pc Hi.out hb ⟨pw2_2,cw2_2,rfl,rrw2_2⟩,trivial⟩
     | 3,_,Hi =>
       refine stepH rfl fun K' hK=>?_
       go_simp
       with_reducible refine (C6.out _).mono ?_
       rintro e W' ⟨pw2_3,cw2_3,rfl,rrw2_3,hb⟩
       exact hK.out _ _ ⟨HI.out.pc Hi.out hb ⟨pw2_3,cw2_3,rfl,rrw2_3⟩,trivial⟩
     | 4,_,Hi =>
       obtain ⟨v',x2,pw2_2,cw2_2,e,rrw2_2⟩:=HI.out.at (i:=2) Hi.out (by kernel_rfl) (by decide)
       obtain rfl:=e
       have x2:a.tmps[37]? = some (.agg #[.bool (zneg tz),.slice pw2_2 (zlen tz) cw2_2]):=x2
       have RRW2_2:=hid rrw2_2
       clear rrw2_2
       obtain ⟨v',x3,pw2_3,cw2_3,e,rrw2_3⟩:=HI.out.at (i:=3) Hi.out (by kernel_rfl) (by decide)
       obtain rfl:=e
       have x3:a.tmps[38]? = some (.slice pw2_3 (nlen one) cw2_3):=x3
       have RRW2_3:=hid rrw2_3
       clear rrw2_3
       refine stepH rfl fun K' hK=>?_
       go_simp
       exact hK.out _ _ ⟨HI.out.pv Hi.out ⟨pw2_2,cw2_2,pw2_3,cw2_3,rfl,RRW2_2.out,RRW2_3.out⟩,trivial⟩
     | 5,_,Hi =>
       have x0:=X0.g Hi.out (by kernel_rfl)
       obtain ⟨v',x4,paw2_4,caw2_4,pbw2_4,cbw2_4,e,rrw2_4,rrw2_4_1⟩:=HI.out.at (i:=4) Hi.out (by kernel_rfl) (by decide)
       obtain rfl:=e
       have x4:a.tmps[39]? = some (.agg #[.bool (zneg tz),.slice paw2_4 (zlen tz) caw2_4,.slice pbw2_4 (nlen one) cbw2_4]):=x4
       have RRW2_4:=hid rrw2_4
       clear rrw2_4
       have RRW2_4_1:=hid rrw2_4_1
       clear rrw2_4_1
       refine stepH rfl fun K' hK=>?_
       go_simp
       with_reducible refine (C7.out _ _ _ _ _ _ _ _ _ (RBb.out.below HI.out.world) (TA.out.below HI.out.world) RRW2_4.out RRW2_4_1.out).mono ?_
       rintro e W' ⟨pw2_5,cw2_5,sw2_5,dw2_5,rfl,rrw2_5,rrw2_5_1,hb⟩
       exact hK.out _ _ ⟨HI.out.pc Hi.out hb ⟨pw2_5,cw2_5,sw2_5,dw2_5,rfl,rrw2_5,rrw2_5_1⟩,trivial⟩
     | 6,_,Hi =>
       refine stepH rfl fun K' hK=>?_
       go_simp
       with_reducible refine (C8.out _).mono ?_
       rintro e W' ⟨pw2_6,cw2_6,sw2_6,dw2_6,rfl,rrw2_6,rrw2_6_1,hb⟩
       exact hK.out _ _ ⟨HI.out.pc Hi.out hb ⟨pw2_6,cw2_6,sw2_6,dw2_6,rfl,rrw2_6,rrw2_6_1⟩,trivial⟩
     | 7,_,Hi =>
       obtain ⟨v',x5,pw2_5,cw2_5,sw2_5,dw2_5,e,rrw2_5,rrw2_5_1⟩:=HI.out.at (i:=5) Hi.out (by kernel_rfl) (by decide)
       obtain rfl:=e
       have x5:a.tmps[40]? = some (.agg #[.bool (zneg (ym)),.slice pw2_5 (zlen (ym)) cw2_5,.slice sw2_5 (nlen (dm)) dw2_5]):=x5
       have RRW2_5:=hid rrw2_5
       clear rrw2_5
       have RRW2_5_1:=hid rrw2_5_1
       clear rrw2_5_1
       obtain ⟨v',x6,pw2_6,cw2_6,sw2_6,dw2_6,e,rrw2_6,rrw2_6_1⟩:=HI.out.at (i:=6) Hi.out (by kernel_rfl) (by decide)
       obtain rfl:=e
       have x6:a.tmps[41]? = some (.agg #[.bool (zneg (yh)),.slice pw2_6 (zlen (yh)) cw2_6,.slice sw2_6 (nlen (dh)) dw2_6]):=x6
       have RRW2_6:=hid rrw2_6
       clear rrw2_6
       have RRW2_6_1:=hid rrw2_6_1
       clear rrw2_6_1
       refine stepH rfl fun K' hK=>?_
       go_simp
       with_reducible refine (C9.out _ _ _ _ _ _ _ _ _ RRW2_5.out RRW2_5_1.out RRW2_6.out RRW2_6_1.out).mono ?_
       rintro e W' ⟨pw2_7,cw2_7,sw2_7,dw2_7,rfl,rrw2_7,rrw2_7_1,hb⟩
       exact hK.out _ _ ⟨HI.out.pc Hi.out hb ⟨pw2_7,cw2_7,sw2_7,dw2_7,rfl,rrw2_7,rrw2_7_1⟩,trivial⟩
     | 8,_,Hi =>
       obtain ⟨v',x7,pw2_7,cw2_7,sw2_7,dw2_7,e,rrw2_7,rrw2_7_1⟩:=HI.out.at (i:=7) Hi.out (by kernel_rfl) (by decide)
       obtain rfl:=e
       have x7:a.tmps[42]? = some (.agg #[.bool (zneg (ys)),.slice pw2_7 (zlen (ys)) cw2_7,.slice sw2_7 (nlen (ds)) dw2_7]):=x7
       have RRW2_7:=hid rrw2_7
       clear rrw2_7
       have RRW2_7_1:=hid rrw2_7_1
       clear rrw2_7_1
       refine stepH rfl fun K' hK=>?_
       go_simp
       with_reducible refine (C10.out _ _ _ _ _ RRW2_7.out RRW2_7_1.out).mono ?_
       rintro e W' ⟨pw2_8,cw2_8,rfl,rrw2_8,hb⟩
       exact hK.out _ _ ⟨HI.out.pc Hi.out hb ⟨pw2_8,cw2_8,rfl,rrw2_8⟩,trivial⟩
     | 9,_,Hi =>
       refine stepH rfl fun K' hK=>?_
       go_simp
       exact hK.out _ _ ⟨HI.out.pc Hi.out ((Below.refl W.heap.size W).alloc (Nat.le_refl _) (.cells #[.bool false,.slice none 0 0] 50)) ⟨W.heap.size,rfl,HI.out.world.size,SBk.new _ _ _⟩,trivial⟩
     | n+10,h,_=>exact absurd h (by omega)
   · intro listed a W hI hD hall
     obtain ⟨v',x2,pw2_2,cw2_2,e,rrw2_2⟩:=hI.slots 2 (by decide) (hall 2 (by decide))
     obtain rfl:=e
     have RRW2_2:=hid rrw2_2
     clear rrw2_2
     obtain ⟨v',x3,pw2_3,cw2_3,e,rrw2_3⟩:=hI.slots 3 (by decide) (hall 3 (by decide))
     obtain rfl:=e
     have RRW2_3:=hid rrw2_3
     clear rrw2_3
     obtain ⟨v',x4,paw2_4,caw2_4,pbw2_4,cbw2_4,e,rrw2_4,rrw2_4_1⟩:=hI.slots 4 (by decide) (hall 4 (by decide))
     obtain rfl:=e
     have RRW2_4:=hid rrw2_4
     clear rrw2_4
     have RRW2_4_1:=hid rrw2_4_1
     clear rrw2_4_1
     obtain ⟨v',x5,pw2_5,cw2_5,sw2_5,dw2_5,e,rrw2_5,rrw2_5_1⟩:=hI.slots 5 (by decide) (hall 5 (by decide))
     obtain rfl:=e
     have RRW2_5:=hid rrw2_5
     clear rrw2_5
     have RRW2_5_1:=hid rrw2_5_1
     clear rrw2_5_1
     obtain ⟨v',x6,pw2_6,cw2_6,sw2_6,dw2_6,e,rrw2_6,rrw2_6_1⟩:=hI.slots 6 (by decide) (hall 6 (by decide))
     obtain rfl:=e
     have RRW2_6:=hid rrw2_6
     clear rrw2_6
     have RRW2_6_1:=hid rrw2_6_1
     clear rrw2_6_1
     obtain ⟨v',x7,pw2_7,cw2_7,sw2_7,dw2_7,e,rrw2_7,rrw2_7_1⟩:=hI.slots 7 (by decide) (hall 7 (by decide))
     obtain rfl:=e
     have RRW2_7:=hid rrw2_7
     clear rrw2_7
     have RRW2_7_1:=hid rrw2_7_1
     clear rrw2_7_1
     obtain ⟨v',x8,pw2_8,cw2_8,e,rrw2_8⟩:=hI.slots 8 (by decide) (hall 8 (by decide))
     obtain rfl:=e
     have RRW2_8:=hid rrw2_8
     clear rrw2_8
     have x8:a.tmps[43]? = some (.agg #[.bool (zneg z),.slice pw2_8 (zlen z) cw2_8]):=x8
     obtain ⟨v',x9,gw2_9,e,rrw2_9,rrw2_9_1⟩:=hI.slots 9 (by decide) (hall 9 (by decide))
     obtain rfl:=e
     have RRW2_9:=hid rrw2_9
     clear rrw2_9
     have RRW2_9_1:=hid rrw2_9_1
     clear rrw2_9_1
     have x9:a.tmps[10]? = some (.pointer (some ⟨gw2_9,0,none⟩)):=x9
     have HBW:=hid hI.world
     have HI:=hid hI
     have HA:=hid hall
     clear hI hall
     have K1:=hid (K1.out.below HBW.out)
     have K2:=hid (K2.out.below HBW.out)
     have RA:=hid (RA.out.below HBW.out)
     have TA:=hid (TA.out.below HBW.out)
     have RT:=hid (RT.out.below HBW.out)
     have RP:=hid (RP.out.below HBW.out)
     have RB:=hid (RB.out.below HBW.out)
     have RBb:=hid (RBb.out.below HBW.out)
     have HBX:=hid (HB5.out.trans (HBW.out.mono HB5.out.size))
     have RC:=RRW2_2
     have RO:=RRW2_3
     have RCb:=RRW2_4
     have ROb:=RRW2_4_1
     have RM:=RRW2_5
     have TM:=RRW2_5_1
     have RH:=RRW2_6
     have TH:=RRW2_6_1
     have RS:=RRW2_7
     have TS:=RRW2_7_1
     have RZ:=RRW2_8
     have K3:Hid (SBk W gw2_9 #[.bool false,.slice none 0 0] 50):=RRW2_9_1
     have dK30:=K3.out.cell (i:=0) rfl
     have fK30:=K3.out.frozen (i:=0)
     have dK31:=K3.out.cell (i:=1) rfl
     have fK31:=K3.out.frozen (i:=1)
     refine tail_succ (t:=0) ?_
     refine stepH rfl fun K' hK=>?_
     go_simp
     refine hK.out _ _ ?_
     clear hK
     refine tail_nil ?_
     have s0:∀ {v':Value} {n':Nat},RN W v' n'→RN (storeAll W (gw2_9) 0 [.bool (zneg z),.slice pw2_8 (zlen z) cw2_8]) v' n':=fun h'=>store_rn _ h' K3.out (by simp [noInt]) (by simp [plainV])
     have o0:∀ {g':Nat} {cs':Array Value} {T':TypeId},g'≠gw2_9→SBk W g' cs' T'→SBk (storeAll W (gw2_9) 0 [.bool (zneg z),.slice pw2_8 (zlen z) cw2_8]) g' cs' T':=fun hg' h'=>store_off hg' _ 0 h'
     exact ⟨rfl,pw2_2,cw2_2,pw2_3,cw2_3,paw2_4,caw2_4,pbw2_4,cbw2_4,pw2_5,cw2_5,sw2_5,dw2_5,pw2_6,cw2_6,sw2_6,dw2_6,pw2_7,cw2_7,sw2_7,dw2_7,pw2_8,cw2_8,gw2_9,(HI.out.finx ⟨HI.out.sx HA.out 0,HI.out.sx HA.out 1,x2,x3,x4,x5,x6,x7,x8,x9,trivial⟩ rfl),(store_below (l:=[.bool (zneg z),.slice pw2_8 (zlen z) cw2_8]) (i:=0) (by have:=RRW2_9.out;omega) HBX.out),(o0 (by have:=RRW2_9.out;omega) K1.out),(o0 (by have:=RRW2_9.out;omega) K2.out),(store_blk (l:=[.bool (zneg z),.slice pw2_8 (zlen z) cw2_8]) (i:=0) K3.out),(s0 RA.out),(s0 TA.out),(s0 RT.out),(s0 RP.out),(s0 RB.out),(s0 RBb.out),(s0 RC.out),(s0 RO.out),(s0 RCb.out),(s0 ROb.out),(s0 RM.out),(s0 TM.out),(s0 RH.out),(s0 TH.out),(s0 RS.out),(s0 TS.out),(s0 RZ.out),RRW2_9.out⟩
 rintro a' W6 ⟨pw2_2,cw2_2,pw2_3,cw2_3,paw2_4,caw2_4,pbw2_4,cbw2_4,pw2_5,cw2_5,sw2_5,dw2_5,pw2_6,cw2_6,sw2_6,dw2_6,pw2_7,cw2_7,sw2_7,dw2_7,pw2_8,cw2_8,gw2_9,rfl,z0,z1,z2,z3,z4,z5,z6,z7,z8,z9,z10,z11,z12,z13,z14,z15,z16,z17,z18,z19,z20,z21⟩
 have HB6:=hid z0
 have K1:=hid z1
 have K2:=hid z2
 have K3:=hid z3
 have RA:=hid z4
 have TA:=hid z5
 have RT:=hid z6
 have RP:=hid z7
 have RB:=hid z8
 have RBb:=hid z9
 have RC:=hid z10
 have RO:=hid z11
 have RCb:=hid z12
 have ROb:=hid z13
 have RM:=hid z14
 have TM:=hid z15
 have RH:=hid z16
 have TH:=hid z17
 have RS:=hid z18
 have TS:=hid z19
 have RZ:=hid z20
 have R9xW6:=z21
 clear z0 z1 z2 z3 z4 z5 z6 z7 z8 z9 z10 z11 z12 z13 z14 z15 z16 z17 z18 z19 z20 z21
 simp only [putL,List.setIfInBounds_toArray,List.set_cons_zero,List.set_cons_succ]
 have dK31:=K3.out.cell (i:=1) rfl
 go_wp2_with fail
 with_reducible refine (C11.out _ _ _ RZ.out).mono ?_
 rintro e W7 ⟨rfl,hb⟩
 clear dK31
 have K1:=hid (K1.out.below hb)
 have K3:=hid (K3.out.below hb)
 have HB7:=hid (HB6.out.trans (hb.mono HB6.out.size))
 clear hb
 go_wp2
 go_loop [11] (fun x=>∃ k:Nat,(k=0∨k+s0.size≤nn+1)∧x=.string (padS k s0)) (fun x=>nn+1 - strLen x)
 case atStart=>exact ⟨0,Or.inl rfl,by rw [padS_zero]⟩
 case round =>
  obtain ⟨k,hk,rfl⟩:=hrel
  have hsz:=padS_size k s0
  have q0:=HS.out
  have q1:=HN.out
  have i1:IntKind.i64.wrap ((nn:Int)+1)=(nn:Int)+1:=IntWalk.i64_in _ (by omega)
  by_cases hlt:(padS k s0).size<nn+1
  · have ea:=fun W:World=>run_string_add_sum (P:=Tryz.prog) W ⟨#[48]⟩ (padS k s0) (by have e:(⟨#[48]⟩:ByteArray).size=1:=rfl;omega)
    have eb:=padS_succ k s0
    have k0:((padS k s0).size:Int)<(nn:Int)+1:=by omega
    have KK:=hid (show k+1+s0.size≤nn+1 by omega)
    have KM:=hid (show (padS (k+1) s0).size=(padS k s0).size+1 by rw [padS_size,padS_size];omega)
    have KL:=hid hlt
    clear hk hlt q0 q1 hsz
    obtain ⟨P0,hP0⟩:∃ x,x=padS k s0:=⟨_,rfl⟩
    obtain ⟨P1,hP1⟩:∃ x,x=padS (k+1) s0:=⟨_,rfl⟩
    rw [← hP0] at ea eb k0 KM KL ⊢
    rw [← hP1] at eb KM
    have HP1:=hid hP1
    clear hP0 hP1
    go_wp2
    go_round
    case rel=>exact ⟨k+1,Or.inr KK.out,by rw [HP1.out]⟩
    case measure=>have h1:=KM.out;have h2:=KL.out;simp [strLen];omega
  · have k0:decide (((padS k s0).size:Int)<(nn:Int)+1)=false:=decide_eq_false (by omega)
    have k9:¬ ((padS k s0).size:Int)<(nn:Int)+1:=by omega
    have hkk:k=nn+1 - s0.size:=by omega
    subst hkk
    have hsz2:(padS (nn+1 - s0.size) s0).size≤100100:=by omega
    have hge:nn+1≤(padS (nn+1 - s0.size) s0).size:=by omega
    by_cases hn0:nn=0
    · subst hn0
      have HT:=hid (show padS (0+1 - s0.size) s0=bodyT s0 0 by unfold bodyT;rw [if_pos rfl])
      clear hk hlt hsz hge
      generalize padS (0+1 - s0.size) s0=T at *
      have k2:decide ((0:Int)<((0:Nat):Int))=false:=by decide
      have e9:T.size≤100200:=by omega
      cases hz:zneg n1 with
      | false =>
        have d0:=K1.out.cell (i:=0) rfl
        rw [hz] at d0
        have er:r=T:=by rw [HR.out,hz];unfold decT;rw [if_neg (by simp)];exact HT.out.symm
        subst er
        clear HR HT
        go_wp2
        go_ret2
        exact ⟨rfl,HB7.out⟩
      | true =>
        have d0:=K1.out.cell (i:=0) rfl
        rw [hz] at d0
        have d1:=K3.out.cell (i:=1) rfl
        by_cases hl:0<zlen z
        · have k0:decide ((0:Int)<(zlen z:Int))=true:=decide_eq_true (by omega)
          have k1:(0:Int)<(zlen z:Int):=by omega
          have ea:=fun W:World=>run_string_add_sum (P:=Tryz.prog) W ⟨#[45]⟩ T (by have e:(⟨#[45]⟩:ByteArray).size=1:=rfl;omega)
          have er:r=⟨#[45]⟩ ++ T:=by rw [HR.out,hz];unfold decT;rw [if_pos ⟨rfl,hl⟩,HT.out]
          subst er
          clear HR HT
          go_wp2
          go_ret2
          exact ⟨rfl,HB7.out⟩
        · have k0:decide ((0:Int)<(zlen z:Int))=false:=decide_eq_false (by omega)
          have k1:¬ (0:Int)<(zlen z:Int):=by omega
          have er:r=T:=by rw [HR.out,hz];unfold decT;rw [if_neg (by omega)];exact HT.out.symm
          subst er
          clear HR HT
          go_wp2
          go_ret2
          exact ⟨rfl,HB7.out⟩
    · have HT0:=hid (show (padS (nn+1 - s0.size) s0).extract 0 ((padS (nn+1 - s0.size) s0).size - nn) ++ ⟨#[46]⟩ ++ (padS (nn+1 - s0.size) s0).extract ((padS (nn+1 - s0.size) s0).size - nn) (padS (nn+1 - s0.size) s0).size=bodyT s0 nn by unfold bodyT;rw [if_neg hn0])
      have hbs:=bodyT_size s0 nn
      clear hk hlt hsz
      generalize padS (nn+1 - s0.size) s0=T at *
      obtain ⟨m1,hm1⟩:∃ m1,m1=T.size - nn:=⟨_,rfl⟩
      have k2:decide ((0:Int)<(nn:Int))=true:=decide_eq_true (by omega)
      have k3:(0:Int)<(nn:Int):=by omega
      have i2:IntKind.i64.wrap ((T.size:Int) - (nn:Int))=(m1:Int):=by rw [IntWalk.i64_in _ (by omega)];omega
      have i3:(m1:Int)≤(T.size:Int):=by omega
      have i4:(0:Int)≤(m1:Int):=by omega
      have z1:(T.extract 0 m1).size≤100100:=by rw [ByteArray.size_extract];omega
      have z2:(T.extract m1 T.size).size≤100100:=by rw [ByteArray.size_extract];omega
      have z3:(T.extract 0 m1 ++ ⟨#[46]⟩:ByteArray).size≤100101:=by rw [ByteArray.size_append];have e:(⟨#[46]⟩:ByteArray).size=1:=rfl;omega
      have ea:=fun W:World=>run_string_add_sum (P:=Tryz.prog) W (T.extract 0 m1) ⟨#[46]⟩ (by have e:(⟨#[46]⟩:ByteArray).size=1:=rfl;omega)
      have eb:=fun W:World=>run_string_add_sum (P:=Tryz.prog) W (T.extract 0 m1 ++ ⟨#[46]⟩) (T.extract m1 T.size) (by omega)
      rw [← hm1] at HT0
      clear hm1 hge z1 z2 z3
      go_wp2_with fail
      go_quiet (fail)
      obtain ⟨T2,hT2⟩:∃ x,x=T.extract 0 m1 ++ ⟨#[46]⟩ ++ T.extract m1 T.size:=⟨_,rfl⟩
      have HT:=hid (show T2=bodyT s0 nn by rw [hT2];exact HT0.out)
      rw [← hT2]
      clear hT2 ea eb
      go_upto_region 14 with fail
      refine wp_world (fun V=>Below w.heap.size w V∧SBk V (W1.heap.size) #[.bool (zneg (n1)),.slice pa_1 (zlen (n1)) ca_1,.slice sa_1 (nlen (en1)) da_1] 55∧SBk V (gw2_9) #[.bool (zneg z),.slice pw2_8 (zlen z) cw2_8] 50) ⟨HB7.out.trans ((below_dr _ _).mono HB7.out.size),K1.out.below (below_dr _ _),K3.out.below (below_dr _ _)⟩ ?_
      rintro V ⟨hbv,k6v,k10v⟩
      have HBV:=hid hbv
      have K6V:=hid k6v
      have K10V:=hid k10v
      clear hbv k6v k10v
      have e9:T2.size≤100200:=by have:=HT.out;have:=HS.out;have:=HN.out;rw [HT.out];omega
      cases hz:zneg n1 with
      | false =>
        have d0:=K6V.out.cell (i:=0) rfl
        rw [hz] at d0
        have er:r=T2:=by rw [HR.out,hz];unfold decT;rw [if_neg (by simp)];exact HT.out.symm
        subst er
        clear HR HT
        go_wp2
        go_ret2
        exact ⟨rfl,HBV.out⟩
      | true =>
        have d0:=K6V.out.cell (i:=0) rfl
        rw [hz] at d0
        have d1:=K10V.out.cell (i:=1) rfl
        by_cases hl:0<zlen z
        · have k0:decide ((0:Int)<(zlen z:Int))=true:=decide_eq_true (by omega)
          have k1:(0:Int)<(zlen z:Int):=by omega
          have ea:=fun W:World=>run_string_add_sum (P:=Tryz.prog) W ⟨#[45]⟩ T2 (by have e:(⟨#[45]⟩:ByteArray).size=1:=rfl;omega)
          have er:r=⟨#[45]⟩ ++ T2:=by rw [HR.out,hz];unfold decT;rw [if_pos ⟨rfl,hl⟩,HT.out]
          subst er
          clear HR HT
          go_wp2
          go_ret2
          exact ⟨rfl,HBV.out⟩
        · have k0:decide ((0:Int)<(zlen z:Int))=false:=decide_eq_false (by omega)
          have k1:¬ (0:Int)<(zlen z:Int):=by omega
          have er:r=T2:=by rw [HR.out,hz];unfold decT;rw [if_neg (by omega)];exact HT.out.symm
          subst er
          clear HR HT
          go_wp2
          go_ret2
          exact ⟨rfl,HBV.out⟩
end Go.Proofs.YtmigpoiajkihhaaGreatDoor
