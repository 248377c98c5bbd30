/- Texts of this proof, one behind the other. -/
import Derived.Test.YthjmjlfnpnbonaaGreatDoorMz43q
import Derived.Test.YthjmjlfnpnbonaaGreatDoorSjb
import Derived.Test.YthjmjlfnpnbonaaGreatDoorMz42q
set_option maxRecDepth 100000
set_option maxHeartbeats 20000000
open Go.Lib (hid)
namespace Go.Proofs.YthjmjlfnpnbonaaGreatDoor
open Go.RowKit Go.Gb
theorem qSub_raw (n1 n2 m n:Int)(en1 en2 f dn:Nat)(p1:Option Addr)(c1:Nat)(s1:Option Addr)(d1:Nat)(p2:Option Addr)(c2:Nat)(s2:Option Addr)(d2:Nat)(w:World)(h1:∀ p1 c1 s1 d1 W,RN W (.slice p1 (zlen n2) c1) n2.natAbs→RN W (.slice s1 (nlen en2) d1) en2→CF 73 #[.agg #[.bool (zneg n2),.slice p1 (zlen n2) c1,.slice s1 (nlen en2) d1]] W m f)(h2:∀ p1 c1 s1 d1 p2 c2 s2 d2 W,RN W (.slice p1 (zlen n1) c1) n1.natAbs→RN W (.slice s1 (nlen en1) d1) en1→RN W (.slice p2 (zlen m) c2) m.natAbs→RN W (.slice s2 (nlen f) d2) f→CF 67 #[.agg #[.bool (zneg n1),.slice p1 (zlen n1) c1,.slice s1 (nlen en1) d1],.agg #[.bool (zneg m),.slice p2 (zlen m) c2,.slice s2 (nlen f) d2]] W n dn)(r1:RN w (.slice p1 (zlen n1) c1) n1.natAbs)(t1:RN w (.slice s1 (nlen en1) d1) en1)(r2:RN w (.slice p2 (zlen n2) c2) n2.natAbs)(t2:RN w (.slice s2 (nlen en2) d2) en2) :
 CF 54 #[.agg #[.bool (zneg n1),.slice p1 (zlen n1) c1,.slice s1 (nlen en1) d1],.agg #[.bool (zneg n2),.slice p2 (zlen n2) c2,.slice s2 (nlen en2) d2]] w n dn:=by
 have C1:=hid h1
 have C2:=hid h2
 have R1:=hid r1
 have T1:=hid t1
 have R2:=hid r2
 have T2:=hid t2
 clear h1 h2 r1 t1 r2 t2
 go_enter Tryz.func54,Tryz.ntmps54
 go_upto_region 1 with fail
 refine wp_boxes w [(#[.bool (zneg n1),.slice p1 (zlen n1) c1,.slice s1 (nlen en1) d1],53),(#[.bool (zneg n2),.slice p2 (zlen n2) c2,.slice s2 (nlen en2) d2],53),(#[.bool false,.slice none 0 0,.slice none 0 0],53)] rfl ?_
 rintro W0 ⟨k1,k2,k3,hb⟩
 have HB0:=hid (show Below w.heap.size w W0 from hb)
 have R1:=hid (R1.out.below HB0.out)
 have T1:=hid (T1.out.below HB0.out)
 have R2:=hid (R2.out.below HB0.out)
 have T2:=hid (T2.out.below HB0.out)
 have K1:=hid k1
 have K2:=hid k2
 have K3:=hid k3
 clear k1 k2 k3 hb
 go_wp2_with fail
 refine wp_region_post (fun a0 a' V=>∃ pw1_2 cw1_2 sw1_2 dw1_2 pw1_3 cw1_3 sw1_3 dw1_3,a'=⟨putL [(5,.agg #[.bool (zneg n1),.slice p1 (zlen n1) c1,.slice s1 (nlen en1) d1]),(6,.agg #[.bool (zneg n2),.slice p2 (zlen n2) c2,.slice s2 (nlen en2) d2]),(7,.agg #[.bool (zneg (m)),.slice pw1_2 (zlen (m)) cw1_2,.slice sw1_2 (nlen (f)) dw1_2]),(8,.agg #[.bool (zneg (n)),.slice pw1_3 (zlen (n)) cw1_3,.slice sw1_3 (nlen (dn)) dw1_3])] a0.tmps,a0.defers⟩∧Below w.heap.size w V∧SBk V (w.heap.size+1+1) #[.bool (zneg (n)),.slice pw1_3 (zlen (n)) cw1_3,.slice sw1_3 (nlen (dn)) dw1_3] 53∧RN V (.slice pw1_3 (zlen (n)) cw1_3) (n).natAbs∧RN V (.slice sw1_3 (nlen (dn)) dw1_3) (dn)) ?_ ?_
 · refine wp_region_tail_d (by kernel_rfl) 4 1 (fun i=>[5,6,7,8].getD i 0) (RelR [Rel.val (.agg #[.bool (zneg n1),.slice p1 (zlen n1) c1,.slice s1 (nlen en1) d1]),Rel.val (.agg #[.bool (zneg n2),.slice p2 (zlen n2) c2,.slice s2 (nlen en2) d2]),⟨fun v W=>∃ p c s d,v=.agg #[.bool (zneg (m)),.slice p (zlen (m)) c,.slice s (nlen (f)) d]∧RN W (.slice p (zlen (m)) c) (m).natAbs∧RN W (.slice s (nlen (f)) d) (f),fun _ _ _ ⟨p,c,s,d,e,h0,h1⟩ hb=>⟨p,c,s,d,e,h0.below hb,h1.below hb⟩⟩,⟨fun v W=>∃ p c s d,v=.agg #[.bool (zneg (n)),.slice p (zlen (n)) c,.slice s (nlen (dn)) d]∧RN W (.slice p (zlen (n)) c) (n).natAbs∧RN W (.slice s (nlen (dn)) d) (dn),fun _ _ _ ⟨p,c,s,d,e,h0,h1⟩ hb=>⟨p,c,s,d,e,h0.below hb,h1.below hb⟩⟩]) (fun W=>Below W0.heap.size W0 W) (fun _ _=>True) (by kernel_rfl) (by kernel_rfl) (by kernel_rfl) trivial (Below.refl _ _).drew ?_ ?_
   · intro listed a W i hI hD hrd him
     have HI:=hid hI
     have HD:=hid hD
     have Hr:=hid hrd
     clear hI hrd hD
     have y2:a.tmps[2]? = some (.pointer (some ⟨w.heap.size,0,none⟩)):=HI.out.rest 2 (by decide)
     have y3:a.tmps[3]? = some (.pointer (some ⟨w.heap.size+1,0,none⟩)):=HI.out.rest 3 (by decide)
     have dK10:=(K1.out.below HI.out.world).cell (i:=0) rfl
     have dK11:=(K1.out.below HI.out.world).cell (i:=1) rfl
     have dK12:=(K1.out.below HI.out.world).cell (i:=2) rfl
     have dK20:=(K2.out.below HI.out.world).cell (i:=0) rfl
     have dK21:=(K2.out.below HI.out.world).cell (i:=1) rfl
     have dK22:=(K2.out.below HI.out.world).cell (i:=2) rfl
     have X1:RV _ listed a 1 6 (.agg #[.bool (zneg n2),.slice p2 (zlen n2) c2,.slice s2 (nlen en2) d2]):=HI.out.rh
     have X0:RV _ listed a 0 5 (.agg #[.bool (zneg n1),.slice p1 (zlen n1) c1,.slice s1 (nlen en1) d1]):=HI.out.rh
     match i,him,Hr with
     | 0,_,Hi =>
       refine stepH rfl fun K' hK=>?_
       go_simp
       exact hK.out _ _ ⟨HI.out.pv Hi.out rfl,trivial⟩
     | 1,_,Hi =>
       refine stepH rfl fun K' hK=>?_
       go_simp
       exact hK.out _ _ ⟨HI.out.pv Hi.out rfl,trivial⟩
     | 2,_,Hi =>
       have x1:=X1.g Hi.out (by kernel_rfl)
       refine stepH rfl fun K' hK=>?_
       go_simp
       with_reducible refine(C1.out _ _ _ _ _ (R2.out.below HI.out.world) (T2.out.below HI.out.world)).mono ?_
       rintro e W' ⟨pw1_2,cw1_2,sw1_2,dw1_2,rfl,rrw1_2,rrw1_2_1,hb⟩
       exact hK.out _ _ ⟨HI.out.pc Hi.out hb ⟨pw1_2,cw1_2,sw1_2,dw1_2,rfl,rrw1_2,rrw1_2_1⟩,trivial⟩
     | 3,_,Hi =>
       have x0:=X0.g Hi.out (by kernel_rfl)
       obtain⟨v',x2,pw1_2,cw1_2,sw1_2,dw1_2,e,rrw1_2,rrw1_2_1⟩:=HI.out.at (i:=2) Hi.out (by kernel_rfl) (by decide)
       obtain rfl:=e
       have x2:a.tmps[7]? = some (.agg #[.bool (zneg (m)),.slice pw1_2 (zlen (m)) cw1_2,.slice sw1_2 (nlen (f)) dw1_2]):=x2
       have RRW1_2:=hid rrw1_2
       clear rrw1_2
       have RRW1_2_1:=hid rrw1_2_1
       clear rrw1_2_1
       refine stepH rfl fun K' hK=>?_
       go_simp
       with_reducible refine(C2.out _ _ _ _ _ _ _ _ _ (R1.out.below HI.out.world) (T1.out.below HI.out.world) RRW1_2.out RRW1_2_1.out).mono ?_
       rintro e W' ⟨pw1_3,cw1_3,sw1_3,dw1_3,rfl,rrw1_3,rrw1_3_1,hb⟩
       exact hK.out _ _ ⟨HI.out.pc Hi.out hb ⟨pw1_3,cw1_3,sw1_3,dw1_3,rfl,rrw1_3,rrw1_3_1⟩,trivial⟩
     | n+4,h,_=>exact absurd h (by omega)
   · intro listed a W hI hD hall
     obtain⟨v',x2,pw1_2,cw1_2,sw1_2,dw1_2,e,rrw1_2,rrw1_2_1⟩:=hI.slots 2 (by decide) (hall 2 (by decide))
     obtain rfl:=e
     have RRW1_2:=hid rrw1_2
     clear rrw1_2
     have RRW1_2_1:=hid rrw1_2_1
     clear rrw1_2_1
     obtain⟨v',x3,pw1_3,cw1_3,sw1_3,dw1_3,e,rrw1_3,rrw1_3_1⟩:=hI.slots 3 (by decide) (hall 3 (by decide))
     obtain rfl:=e
     have RRW1_3:=hid rrw1_3
     clear rrw1_3
     have RRW1_3_1:=hid rrw1_3_1
     clear rrw1_3_1
     have x3:a.tmps[8]? = some (.agg #[.bool (zneg (n)),.slice pw1_3 (zlen (n)) cw1_3,.slice sw1_3 (nlen (dn)) dw1_3]):=x3
     have HBW:=hid hI.world
     have HI:=hid hI
     have HA:=hid hall
     clear hI hall
     have K3:=hid (K3.out.below HBW.out)
     have HBX:=hid (HB0.out.trans (HBW.out.mono HB0.out.size))
     have RM:=RRW1_2
     have TM:=RRW1_2_1
     have RQ:=RRW1_3
     have TQ:=RRW1_3_1
     have y4:a.tmps[4]? = some (.pointer (some ⟨w.heap.size+1+1,0,none⟩)):=HI.out.rest 4 (by decide)
     have dK30:=K3.out.cell (i:=0) rfl
     have fK30:=K3.out.frozen (i:=0)
     have dK31:=K3.out.cell (i:=1) rfl
     have fK31:=K3.out.frozen (i:=1)
     have dK32:=K3.out.cell (i:=2) rfl
     have fK32:=K3.out.frozen (i:=2)
     refine tail_succ (t:=0) ?_
     refine stepH rfl fun K' hK=>?_
     go_simp
     refine hK.out _ _ ?_
     clear hK
     refine tail_nil ?_
     have s0:∀ {v':Value} {n':Nat},RN W v' n'→RN (storeAll W (w.heap.size+1+1) 0 [.bool (zneg (n)),.slice pw1_3 (zlen (n)) cw1_3,.slice sw1_3 (nlen (dn)) dw1_3]) v' n':=fun h'=>store_rn _ h' K3.out (by simp[noInt]) (by simp[plainV])
     exact⟨rfl,pw1_2,cw1_2,sw1_2,dw1_2,pw1_3,cw1_3,sw1_3,dw1_3,(HI.out.finx ⟨HI.out.sx HA.out 0,HI.out.sx HA.out 1,x2,x3,trivial⟩ rfl),(store_below (l:=[.bool (zneg (n)),.slice pw1_3 (zlen (n)) cw1_3,.slice sw1_3 (nlen (dn)) dw1_3]) (i:=0) (by omega) HBX.out),(store_blk (l:=[.bool (zneg (n)),.slice pw1_3 (zlen (n)) cw1_3,.slice sw1_3 (nlen (dn)) dw1_3]) (i:=0) K3.out),(s0 RQ.out),(s0 TQ.out)⟩
 rintro a' W1 ⟨pw1_2,cw1_2,sw1_2,dw1_2,pw1_3,cw1_3,sw1_3,dw1_3,rfl,z0,z1,z2,z3⟩
 have HB1:=hid z0
 have K3:=hid z1
 have RQ:=hid z2
 have TQ:=hid z3
 clear z0 z1 z2 z3
 simp only[putL,List.setIfInBounds_toArray,List.set_cons_zero,List.set_cons_succ]
 go_wp2
 have dK30:=K3.out.cell (i:=0) rfl
 have dK31:=K3.out.cell (i:=1) rfl
 have dK32:=K3.out.cell (i:=2) rfl
 exact bodyPost_ret (v:=.agg #[.bool (zneg (n)),.slice pw1_3 (zlen (n)) cw1_3,.slice sw1_3 (nlen (dn)) dw1_3]) (by simp[results,Tryz.results54,go_sem,dK30,dK31,dK32]) rfl ⟨_,_,_,_,rfl,RQ.out,TQ.out,HB1.out⟩
end Go.Proofs.YthjmjlfnpnbonaaGreatDoor
set_option maxRecDepth 100000
set_option maxHeartbeats 20000000
open Go.Lib (hid)
namespace Go.Proofs.YthjmjlfnpnbonaaGreatDoor
open Go.RowKit Go.Gb
theorem qTo_one (n:Int)(en:Nat)(sn:ByteArray)(p1:Option Addr)(c1:Nat)(s1:Option Addr)(d1:Nat)(w:World)(h1:∀ p1 c1 W,RN W (.slice p1 (zlen n) c1) n.natAbs→CR 52 #[.agg #[.bool (zneg n),.slice p1 (zlen n) c1]] W (.string sn))(h2:∀ s1 d1 W,RN W (.slice s1 (nlen en) d1) en→CR 53 #[.slice s1 (nlen en) d1] W (.string ⟨#[49]⟩))(r1:RN w (.slice p1 (zlen n) c1) n.natAbs)(t1:RN w (.slice s1 (nlen en) d1) en) :
 CR 27 #[.agg #[.bool (zneg n),.slice p1 (zlen n) c1,.slice s1 (nlen en) d1]] w (.string sn):=by
 have C1:=hid h1
 have C2:=hid h2
 have R1:=hid r1
 have T1:=hid t1
 clear h1 h2 r1 t1
 go_enter Tryz.func27,Tryz.ntmps27
 go_upto_region 1 with fail
 refine wp_boxes w [(#[.bool (zneg n),.slice p1 (zlen n) c1,.slice s1 (nlen en) d1],53)] rfl ?_
 rintro W0 ⟨k1,hb⟩
 have HB0:=hid (show Below w.heap.size w W0 from hb)
 have R1:=hid (R1.out.below HB0.out)
 have T1:=hid (T1.out.below HB0.out)
 have K1:=hid k1
 clear k1 hb
 have dK10:=K1.out.cell (i:=0) rfl
 have dK11:=K1.out.cell (i:=1) rfl
 go_wp2_with fail
 with_reducible refine(C1.out _ _ _ R1.out).mono ?_
 rintro e W1 ⟨rfl,hb⟩
 clear dK10 dK11
 have K1:=hid (K1.out.below hb)
 have T1:=hid (T1.out.below hb)
 have HB1:=hbt HB0 hb
 clear hb
 have dK12:=K1.out.cell (i:=2) rfl
 go_wp2_with fail
 with_reducible refine(C2.out _ _ _ T1.out).mono ?_
 rintro e W2 ⟨rfl,hb⟩
 clear dK12
 have HB2:=hbt HB1 hb
 clear hb
 go_wp2
 exact bodyPost_ret (v:=.string sn) (by simp[results,Tryz.results27,go_sem]) rfl ⟨rfl,HB2.out⟩
theorem qTo_more (n:Int)(en:Nat)(sn sd res:ByteArray)(hsd:(sd.toList==[49])=false)(hr:sn++(⟨#[47]⟩++sd)=res)(hl1:sn.size≤10000)(hl2:sd.size≤10000)(p1:Option Addr)(c1:Nat)(s1:Option Addr)(d1:Nat)(w:World)(h1:∀ p1 c1 W,RN W (.slice p1 (zlen n) c1) n.natAbs→CR 52 #[.agg #[.bool (zneg n),.slice p1 (zlen n) c1]] W (.string sn))(h2:∀ s1 d1 W,RN W (.slice s1 (nlen en) d1) en→CR 53 #[.slice s1 (nlen en) d1] W (.string sd))(r1:RN w (.slice p1 (zlen n) c1) n.natAbs)(t1:RN w (.slice s1 (nlen en) d1) en) :
 CR 27 #[.agg #[.bool (zneg n),.slice p1 (zlen n) c1,.slice s1 (nlen en) d1]] w (.string res):=by
 have C1:=hid h1
 have C2:=hid h2
 have R1:=hid r1
 have T1:=hid t1
 have HR:=hid hr
 have HL1:=hid hl1
 have HL2:=hid hl2
 have k0:¬ sd.toList=[49]:=by simpa using hsd
 clear hr hl1 hl2 h1 h2 r1 t1
 go_enter Tryz.func27,Tryz.ntmps27
 go_upto_region 1 with fail
 refine wp_boxes w [(#[.bool (zneg n),.slice p1 (zlen n) c1,.slice s1 (nlen en) d1],53)] rfl ?_
 rintro W0 ⟨k1,hb⟩
 have HB0:=hid (show Below w.heap.size w W0 from hb)
 have R1:=hid (R1.out.below HB0.out)
 have T1:=hid (T1.out.below HB0.out)
 have K1:=hid k1
 clear k1 hb
 have dK10:=K1.out.cell (i:=0) rfl
 have dK11:=K1.out.cell (i:=1) rfl
 go_wp2_with fail
 with_reducible refine(C1.out _ _ _ R1.out).mono ?_
 rintro e W1 ⟨rfl,hb⟩
 clear dK10 dK11
 have K1:=hid (K1.out.below hb)
 have T1:=hid (T1.out.below hb)
 have HB1:=hbt HB0 hb
 clear hb
 have dK12:=K1.out.cell (i:=2) rfl
 go_wp2_with fail
 with_reducible refine(C2.out _ _ _ T1.out).mono ?_
 rintro e W2 ⟨rfl,hb⟩
 clear dK12
 have HB2:=hbt HB1 hb
 clear hb
 have ha1:=run_string_add_sum (P:=Tryz.prog) W2 ⟨#[47]⟩ sd (by have:=HL2.out;have e:(⟨#[47]⟩:ByteArray).size=1:=rfl;omega)
 have ha2:=run_string_add_sum (P:=Tryz.prog) W2 sn (⟨#[47]⟩++sd) (by have:=HL1.out;have:=HL2.out;have e:(⟨#[47]⟩:ByteArray).size=1:=rfl;rw[ByteArray.size_append];omega)
 rw[HR.out]at ha2
 go_wp2
 exact bodyPost_ret (v:=.string res) (by simp[results,Tryz.results27,go_sem]) rfl ⟨rfl,HB2.out⟩
open Go.RowKit Go.Gb
def LQ (q:Rat):Prop:=zlen q.num≤10000∧nlen q.den≤10000
theorem z_abs (z:Int):z=if zneg z then -(z.natAbs:Int) else (z.natAbs:Int):=by
 unfold zneg
 by_cases h:z<0
 · rw[decide_eq_true h,if_pos rfl];omega
 · rw[decide_eq_false h,if_neg (by simp)];omega
theorem z_div (z:Int)(g:Nat)(hg:g∣z.natAbs):z / (g:Int)=if zneg z then -((z.natAbs / g:Nat):Int) else ((z.natAbs / g:Nat):Int):=by
 have hd:(g:Int)∣(z.natAbs:Int):=Int.natCast_dvd_natCast.2 hg
 unfold zneg
 by_cases h:z<0
 · rw[decide_eq_true h,if_pos rfl]
   have e:z = -(z.natAbs:Int):=by omega
   conv=>lhs;rw[e]
   rw[Int.neg_ediv_of_dvd hd,Int.natCast_ediv]
 · rw[decide_eq_false h,if_neg (by simp),Int.natCast_ediv]
   congr 1
   omega
theorem z_mul (z:Int)(n:Nat):z*(n:Int)=if zneg z then -((z.natAbs*n:Nat):Int) else ((z.natAbs*n:Nat):Int):=by
 rw[Int.natCast_mul]
 unfold zneg
 by_cases h:z<0
 · rw[decide_eq_true h,if_pos rfl,← Int.neg_mul];congr 1;omega
 · rw[decide_eq_false h,if_neg (by simp)];congr 1;omega
theorem add_same (x y:Rat)(h:x.den=y.den):x+y=mkRat (x.num+y.num) x.den:=by
 rw[add_small,← h,← Int.add_mul,Rat.mkRat_mul_right x.den_nz]
theorem zlen_mul (a b:Int):zlen (a*b)≤zlen a+zlen b:=by
 unfold zlen nlen;rw[Int.natAbs_mul];exact digs_mul_len _ _
theorem nlen_mul (a b:Nat):nlen (a*b)≤nlen a+nlen b:=digs_mul_len a b
theorem zlen_add {a b:Int}{K:Nat}(ha:zlen a≤K)(hb:zlen b≤K):zlen (a+b)≤K+1 :=
 Nat.le_trans (nlen_mono (Int.natAbs_add_le a b)) (digs_add_len (a:=a.natAbs) (b:=b.natAbs) ha hb)
theorem zlen_nat (n:Nat):zlen (n:Int)=nlen n:=by unfold zlen;rw[Int.natAbs_natCast]
theorem sLowest (z:Int)(dn:Nat)(q:Rat)(hq:mkRat z dn=q)(hd:dn≠0)(hz:zlen z≤50000)(hl:nlen dn≤50000)(p1:Option Addr)(c1:Nat)(s2:Option Addr)(d2:Nat)(W:World)(r1:RN W (.slice p1 (zlen z) c1) z.natAbs)(t2:RN W (.slice s2 (nlen dn) d2) dn) :
 Calls Tryz.prog 81 #[.agg #[.bool (zneg z),.slice p1 (zlen z) c1],.slice s2 (nlen dn) d2] W fun e w'=>∃ p c s d,e=.returned (.agg #[.bool (zneg q.num),.slice p (zlen q.num) c,.slice s (nlen q.den) d])∧RN w' (.slice p (zlen q.num) c) q.num.natAbs∧RN w' (.slice s (nlen q.den) d) q.den∧Below W.heap.size W w':=by
 obtain⟨hn,he⟩:=mk_parts z dn hd
 rw[hq]at hn he
 obtain⟨g,hg⟩:∃ g,g=Nat.gcd z.natAbs dn:=⟨_,rfl⟩
 rw[← hg]at hn he
 by_cases g1:g=1
 · rw[g1]at hn he
   have e1:q.num=z:=by rw[hn];simp
   have e2:q.den=dn:=by rw[he];simp
   rw[e1,e2]
   exact lowest_one z dn hz hl p1 c1 s2 d2 (by rw[← hg,g1]) W r1 t2
 · have g0:g≠0:=by rw[hg];exact Nat.ne_of_gt (Nat.gcd_pos_of_pos_right _ (by omega))
   have hy:=z_div z g (by rw[hg];exact Nat.gcd_dvd_left _ _)
   rw[hn,he]
   by_cases gl:nlen g=1
   · exact lowest_word z dn hz hl p1 c1 s2 d2 g _ _ _ _ _ hg.symm g0 g1 gl rfl rfl rfl rfl hy W r1 t2
   · exact lowest_long z dn hz hl p1 c1 s2 d2 g _ _ _ _ _ hg.symm g0 gl rfl rfl rfl rfl hy W r1 t2
theorem sQNeg (x q:Rat)(hq : -x=q)(hx:LQ x)(p1:Option Addr)(c1:Nat)(s1:Option Addr)(d1:Nat)(W:World)(r1:RN W (.slice p1 (zlen x.num) c1) x.num.natAbs)(t1:RN W (.slice s1 (nlen x.den) d1) x.den) :
 Calls Tryz.prog 73 #[.agg #[.bool (zneg x.num),.slice p1 (zlen x.num) c1,.slice s1 (nlen x.den) d1]] W fun e w'=>∃ p c s d,e=.returned (.agg #[.bool (zneg q.num),.slice p (zlen q.num) c,.slice s (nlen q.den) d])∧RN w' (.slice p (zlen q.num) c) q.num.natAbs∧RN w' (.slice s (nlen q.den) d) q.den∧Below W.heap.size W w':=by
 subst hq
 exact qNeg_raw x.num (-x).num x.den p1 c1 s1 d1 W (fun p c W h=>sOpposite x.num _ rfl (Nat.le_trans hx.1 (by decide)) p c W h) r1 t1
theorem sQMul (x y q:Rat)(hq:x*y=q)(hx:LQ x)(hy:LQ y)(p1:Option Addr)(c1:Nat)(s1:Option Addr)(d1:Nat)(p2:Option Addr)(c2:Nat)(s2:Option Addr)(d2:Nat)(W:World)(r1:RN W (.slice p1 (zlen x.num) c1) x.num.natAbs)(t1:RN W (.slice s1 (nlen x.den) d1) x.den)(r2:RN W (.slice p2 (zlen y.num) c2) y.num.natAbs)(t2:RN W (.slice s2 (nlen y.den) d2) y.den) :
 Calls Tryz.prog 61 #[.agg #[.bool (zneg x.num),.slice p1 (zlen x.num) c1,.slice s1 (nlen x.den) d1],.agg #[.bool (zneg y.num),.slice p2 (zlen y.num) c2,.slice s2 (nlen y.den) d2]] W fun e w'=>∃ p c s d,e=.returned (.agg #[.bool (zneg q.num),.slice p (zlen q.num) c,.slice s (nlen q.den) d])∧RN w' (.slice p (zlen q.num) c) q.num.natAbs∧RN w' (.slice s (nlen q.den) d) q.den∧Below W.heap.size W w':=by
 obtain⟨a1,a2⟩:=hx
 obtain⟨b1,b2⟩:=hy
 have l1:=zlen_mul x.num y.num
 have l2:=nlen_mul x.den y.den
 exact qMul_raw x.num y.num (x.num*y.num) q.num x.den y.den (x.den*y.den) q.den p1 c1 s1 d1 p2 c2 s2 d2 W (fun p1 c1 p2 c2 W h1 h2=>sTimes _ _ _ rfl (by omega) (by omega) p1 c1 p2 c2 W h1 h2)
  (fun s1 d1 s2 d2 W h1 h2=>cTimes _ _ _ _ (by omega) (by omega) W h1 h2)
  (fun p1 c1 s2 d2 W h1 h2=>sLowest _ _ q (by rw[← hq,mul_small]) (Nat.mul_ne_zero x.den_nz y.den_nz) (by omega) (by omega) p1 c1 s2 d2 W h1 h2) r1 t1 r2 t2
theorem sQAdd (x y q:Rat)(hq:x+y=q)(hx:LQ x)(hy:LQ y)(p1:Option Addr)(c1:Nat)(s1:Option Addr)(d1:Nat)(p2:Option Addr)(c2:Nat)(s2:Option Addr)(d2:Nat)(W:World)(r1:RN W (.slice p1 (zlen x.num) c1) x.num.natAbs)(t1:RN W (.slice s1 (nlen x.den) d1) x.den)(r2:RN W (.slice p2 (zlen y.num) c2) y.num.natAbs)(t2:RN W (.slice s2 (nlen y.den) d2) y.den) :
 Calls Tryz.prog 67 #[.agg #[.bool (zneg x.num),.slice p1 (zlen x.num) c1,.slice s1 (nlen x.den) d1],.agg #[.bool (zneg y.num),.slice p2 (zlen y.num) c2,.slice s2 (nlen y.den) d2]] W fun e w'=>∃ p c s d,e=.returned (.agg #[.bool (zneg q.num),.slice p (zlen q.num) c,.slice s (nlen q.den) d])∧RN w' (.slice p (zlen q.num) c) q.num.natAbs∧RN w' (.slice s (nlen q.den) d) q.den∧Below W.heap.size W w':=by
 obtain⟨a1,a2⟩:=hx
 obtain⟨b1,b2⟩:=hy
 by_cases he:x.den=y.den
 · have l1:=zlen_add a1 b1
   exact qAdd_same x.num y.num (x.num+y.num) q.num x.den y.den q.den p1 c1 s1 d1 p2 c2 s2 d2 W (fun s1 d1 s2 d2 W h1 h2=>by
        have h:=cCmp _ _ x.den y.den (by omega) W h1 h2
        rwa [show cmpN x.den y.den=0 by rw[he];unfold cmpN;simp]at h)
    (fun p1 c1 p2 c2 W h1 h2=>sPlus _ _ _ rfl (by omega) (by omega) p1 c1 p2 c2 W h1 h2)
    (fun p1 c1 s2 d2 W h1 h2=>sLowest _ _ q (by rw[← hq,add_same x y he]) x.den_nz (by omega) (by omega) p1 c1 s2 d2 W h1 h2) r1 t1 r2 t2
 · have l1:=zlen_mul x.num (y.den:Int)
   have l2:=zlen_mul y.num (x.den:Int)
   have l3:=nlen_mul x.den y.den
   have l4:=nlen_mul x.num.natAbs y.den
   have l5:=nlen_mul y.num.natAbs x.den
   rw[zlen_nat]at l1 l2
   have l6:=zlen_add (a:=x.num*(y.den:Int)) (b:=y.num*(x.den:Int)) (K:=20000) (by omega) (by omega)
   have z1:zlen x.num=nlen x.num.natAbs:=rfl
   have z2:zlen y.num=nlen y.num.natAbs:=rfl
   exact qAdd_other x.num y.num (x.num*(y.den:Int)) (y.num*(x.den:Int)) (x.num*(y.den:Int)+y.num*(x.den:Int)) q.num (cmpN x.den y.den) x.den y.den (x.den*y.den) q.den (x.num.natAbs*y.den) (y.num.natAbs*x.den) (fun e=>he (by unfold cmpN at e;split at e<;>first|(split at e<;>first|omega|simp at e)|simp at e))
    p1 c1 s1 d1 p2 c2 s2 d2 W (fun s1 d1 s2 d2 W h1 h2=>cCmp _ _ x.den y.den (by omega) W h1 h2)
    (fun p1 c1 s2 d2 W h1 h2=>cTimes _ _ _ _ (by omega) (by omega) W h1 h2) (fun s2 d2 W h=>cMake _ _ _ _ (z_mul x.num y.den) (by omega) W h)
    (fun p1 c1 s2 d2 W h1 h2=>cTimes _ _ _ _ (by omega) (by omega) W h1 h2) (fun s2 d2 W h=>cMake _ _ _ _ (z_mul y.num x.den) (by omega) W h)
    (fun p1 c1 p2 c2 W h1 h2=>sPlus _ _ _ rfl (by omega) (by omega) p1 c1 p2 c2 W h1 h2)
    (fun s1 d1 s2 d2 W h1 h2=>cTimes _ _ _ _ (by omega) (by omega) W h1 h2)
    (fun p1 c1 s2 d2 W h1 h2=>sLowest _ _ q (by rw[← hq,add_small]) (Nat.mul_ne_zero x.den_nz y.den_nz) (by omega) (by omega) p1 c1 s2 d2 W h1 h2) r1 t1 r2 t2
theorem sQSub (x y q:Rat)(hq:x-y=q)(hx:LQ x)(hy:LQ y)(p1:Option Addr)(c1:Nat)(s1:Option Addr)(d1:Nat)(p2:Option Addr)(c2:Nat)(s2:Option Addr)(d2:Nat)(W:World)(r1:RN W (.slice p1 (zlen x.num) c1) x.num.natAbs)(t1:RN W (.slice s1 (nlen x.den) d1) x.den)(r2:RN W (.slice p2 (zlen y.num) c2) y.num.natAbs)(t2:RN W (.slice s2 (nlen y.den) d2) y.den) :
 Calls Tryz.prog 54 #[.agg #[.bool (zneg x.num),.slice p1 (zlen x.num) c1,.slice s1 (nlen x.den) d1],.agg #[.bool (zneg y.num),.slice p2 (zlen y.num) c2,.slice s2 (nlen y.den) d2]] W fun e w'=>∃ p c s d,e=.returned (.agg #[.bool (zneg q.num),.slice p (zlen q.num) c,.slice s (nlen q.den) d])∧RN w' (.slice p (zlen q.num) c) q.num.natAbs∧RN w' (.slice s (nlen q.den) d) q.den∧Below W.heap.size W w':=by
 have hny:LQ (-y):=⟨by have:=hy.1;unfold zlen at *;rwa [show(-y).num = -y.num from rfl,Int.natAbs_neg],hy.2⟩
 exact qSub_raw x.num y.num (-y).num q.num x.den y.den (-y).den q.den p1 c1 s1 d1 p2 c2 s2 d2 W (fun p1 c1 s1 d1 W h1 h2=>sQNeg y _ rfl hy p1 c1 s1 d1 W h1 h2)
  (fun p1 c1 s1 d1 p2 c2 s2 d2 W h1 h2 h3 h4=>sQAdd x (-y) q (by rw[← hq,Rat.sub_eq_add_neg]) hx hny p1 c1 s1 d1 p2 c2 s2 d2 W h1 h2 h3 h4) r1 t1 r2 t2
theorem sQTo (q:Rat)(s:ByteArray)(hs:Sq q=s)(hq:SmQ 9000 q)(p1:Option Addr)(c1:Nat)(s1:Option Addr)(d1:Nat)(W:World)(r1:RN W (.slice p1 (zlen q.num) c1) q.num.natAbs)(t1:RN W (.slice s1 (nlen q.den) d1) q.den) :
 CR 27 #[.agg #[.bool (zneg q.num),.slice p1 (zlen q.num) c1,.slice s1 (nlen q.den) d1]] W (.string s):=by
 have l1:zlen q.num≤9000:=sm_digs hq.1 (by decide)
 have l2:nlen q.den≤9000:=sm_digs hq.2 (by decide)
 have z1:(Sn q.num.natAbs).size≤9000:=sn_size hq.1 (by decide)
 have z2:(Sn q.den).size≤9000:=sn_size hq.2 (by decide)
 have z3:(Sz q.num).size≤9001:=sz_size hq.1 (by decide)
 have h1:=fun p c W h=>sTo q.num _ rfl (Nat.le_trans l1 (by decide)) (by omega) p c W h
 have h2:=fun(s:Option Addr) (d:Nat) W h=>RTo_any (.slice s (nlen q.den) d) q.den (Nat.le_trans l2 (by decide)) W h
 subst hs
 by_cases hd:q.den=1
 · unfold Sq
   rw[if_pos hd]
   exact qTo_one q.num q.den (Sz q.num) p1 c1 s1 d1 W h1 (fun s d W h=>by
    have:=h2 s d W h
    rwa [hd,show Sn 1=⟨#[49]⟩by decide +kernel,← hd]at this) r1 t1
 · unfold Sq
   rw[if_neg hd]
   refine qTo_more q.num q.den (Sz q.num) (Sn q.den) _ ?_ ?_ (by omega) (by omega) p1 c1 s1 d1 W h1 h2 r1 t1
   · rw[beq_eq_false_iff_ne]
     intro e
     apply hd
     have e2:Sn q.den=Sn 1:=by
       apply ByteArray.ext;apply Array.ext'
       rw[toList_data]at e
       rw[e];decide +kernel
     exact sn_inj e2
   · apply ByteArray.ext;apply Array.ext'
     simp[Sn]
open Go.RowKit Go.Gb
theorem quiet_below {f:FuncId}{args:Array Value}{w:World}{v:Value}(h:Calls Tryz.prog f args w fun e w'=>e=.returned v∧w=w'):Calls Tryz.prog f args w fun e w'=>e=.returned v∧Below w.heap.size w w':=by
 refine h.mono ?_
 rintro e w' ⟨rfl,rfl⟩
 exact⟨rfl,Below.refl _ _⟩
theorem at_list {s:ByteArray}{k:Nat}(h:k<s.size):s[k]=s.data.toList[k]'(by rw[size_list];exact h):=(get_list s k h).symm
theorem sSplit_no (s:ByteArray)(hn:(47:UInt8)∉s.data.toList)(hs:s.size≤2000)(W:World) :
 CR 42 #[.string s] W (.tuple #[.string s,.string ⟨#[49]⟩,.bool false]) :=
 quiet_below (split_no s (fun k h e=>hn (by rw[← e,at_list h];exact List.getElem_mem _)) (by unfold maxLen;omega) W)
theorem sSplit_yes (s:ByteArray)(x y:List UInt8)(hl:s.data.toList=x++47 :: y)(hn:(47:UInt8)∉x)(hs:s.size≤2000)(W:World) :
 CR 42 #[.string s] W (.tuple #[.string ⟨x.toArray⟩,.string ⟨y.toArray⟩,.bool true]):=by
 have hsz:s.size=x.length+(y.length+1):=by rw[← size_list,hl];simp
 have hxs:(⟨x.toArray⟩:ByteArray).size=x.length:=by show x.toArray.size=_;simp
 refine split_yes s ⟨x.toArray⟩ ⟨y.toArray⟩ (by omega) ?_ ?_ ?_ ?_ (by unfold maxLen;omega) W
 · intro k hk h2 e
   apply hn
   rw[← e,at_list h2]
   simp only[hl]
   rw[List.getElem_append_left (by omega)]
   exact List.getElem_mem _
 · rw[at_list (by omega)]
   simp only[hl,hxs]
   rw[List.getElem_append_right (Nat.le_refl _)]
   simp
 · apply ByteArray.ext;apply Array.ext'
   rw[extract_list,hl,hxs];simp
 · apply ByteArray.ext;apply Array.ext'
   rw[extract_list,hl,hxs,hsz];simp
   exact List.take_of_length_le (by omega)
theorem sFromL (q:Rat)(hq:SmQ 900 q)(hs:(Sq q).size≤2000)(W:World) :
 Calls Tryz.prog 26 #[.string (Sq q)] W fun e w'=>∃ p c s d,e=.returned (.tuple #[.agg #[.bool (zneg q.num),.slice p (zlen q.num) c,.slice s (nlen q.den) d],.bool true])∧RN w' (.slice p (zlen q.num) c) q.num.natAbs∧RN w' (.slice s (nlen q.den) d) q.den∧Below W.heap.size W w':=by
 have fn:FitZ q.num:=by unfold FitZ Fit;exact Sm.mono hq.1 (by decide)
 have z1:(Sz q.num).size≤901:=sz_size hq.1 (by decide)
 have z2:(Sn q.den).size≤900:=sn_size hq.2 (by decide)
 have hR:=fun W=>rz_sh (zRead q.num fn W)
 by_cases hd:q.den=1
 · rw[sq_int hd]at hs ⊢
   rw[hd]
   refine from_int (Sz q.num) (Sz q.num) ⟨#[49]⟩ q.num 1 W (fun W=>sSplit_no _ (sz_no 47 (by decide) (by decide) _) hs W) (fun W=>quiet_below (zrValid q.num (by omega) W)) (fun W=>quiet_below ?_) hR (fun W=>?_)
   · exact RValid_any ⟨#[49]⟩ W (by decide)
   · exact own_rn (RFrom_any ⟨#[49]⟩ (by decide) (by decide) W)
 · have hn0:q.num≠0:=by
    intro e
    have:=q.reduced
    rw[e]at this
    unfold Nat.Coprime at this
    rw[Int.natAbs_zero,Nat.gcd_zero_left]at this
    exact hd this
   have hd1:1<q.den:=by have:=q.den_pos;omega
   have lz:zlen q.num≤900:=sm_digs hq.1 (by decide)
   have ln:nlen q.den≤900:=sm_digs hq.2 (by decide)
   have e0:Sn q.den=⟨(Lib.decDigits q.den).toArray⟩:=rfl
   have e1:(⟨(Sz q.num).data.toList.toArray⟩:ByteArray)=Sz q.num:=by simp
   have hsp:=fun W=>sSplit_yes (Sq q) _ _ (sq_frac_list hd) (sz_no 47 (by decide) (by decide) _) hs W
   rw[e1,← e0]at hsp
   refine from_frac (Sq q) (Sz q.num) (Sn q.den) q.num 1 q.num.sign q.den 1 1 (by decide) (fun e=>hn0 (Int.sign_eq_zero_iff_zero.1 e)) W hsp (fun W=>quiet_below (zrValid q.num (by omega) W)) (fun W=>quiet_below ?_) hR (fun W=>?_)
    (fun W=>cSmallL 1 1 rfl (by decide) W) (fun s1 d1 s2 d2 W h1 h2=>?_) (fun p c W h=>sSignum q.num _ rfl p c W h) (fun p1 c1 s2 d2 W h1 h2=>?_) (fun s1 d1 s2 d2 W h1 h2=>?_)
   · have h:=RValid_any (Sn q.den) W (by unfold maxLen;omega)
     rwa [sn_vld]at h
   · have h:=own_rn (RFrom_any (Sn q.den) (by rw[sn_list];exact dec_all _) (by omega) W)
     rwa [sn_dval]at h
   · have h:=cCmp (.slice s1 (nlen q.den) d1) (.slice s2 (nlen 1) d2) q.den 1 (by omega) W h1 h2
     rwa [show cmpN q.den 1=1 by unfold cmpN;rw[if_neg (by omega),if_pos hd1]]at h
   · exact cCommon _ _ _ _ 1 q.reduced (Nat.le_trans lz (by decide)) (by omega) W h1 h2
   · have h:=cCmp (.slice s1 (nlen 1) d1) (.slice s2 (nlen 1) d2) 1 1 (by rw[nlen_one];decide) W h1 h2
     rwa [show cmpN 1 1=0 by decide]at h
theorem sFrom (q:Rat)(hq:SmQ 900 q)(hs:(Sq q).size≤1000)(W:World) :
 Calls Tryz.prog 26 #[.string (Sq q)] W fun e w'=>∃ p c s d,e=.returned (.tuple #[.agg #[.bool (zneg q.num),.slice p (zlen q.num) c,.slice s (nlen q.den) d],.bool true])∧RN w' (.slice p (zlen q.num) c) q.num.natAbs∧RN w' (.slice s (nlen q.den) d) q.den∧Below W.heap.size W w':=sFromL q hq (by omega) W
open Go.RowKit Go.Gb
theorem smq_lq {q:Rat}{k:Nat}(h:SmQ k q)(h0:0<k)(hk:k≤10000):LQ q:=⟨Nat.le_trans (sm_digs h.1 h0) hk,Nat.le_trans (sm_digs h.2 h0) hk⟩
open Go.RowKit Go.Gb
theorem hlq {q:Rat}{k:Nat}(h:SmQ k q)(hk:k+1≤10000):LQ q:=smq_lq (h.mono (Nat.le_succ k)) (Nat.succ_pos k) hk
theorem tN0 (W:World):Calls Tryz.prog 35 #[.string ⟨#[48]⟩] W fun e w'=>∃ p c s d,e=.returned (.agg #[.bool (zneg ((0:Rat)).num),.slice p (zlen ((0:Rat)).num) c,.slice s (nlen ((0:Rat)).den) d])∧RN w' (.slice p (zlen ((0:Rat)).num) c) ((0:Rat)).num.natAbs∧RN w' (.slice s (nlen ((0:Rat)).den) d) ((0:Rat)).den∧Below W.heap.size W w':=by
 have h:=fun W=>sFrom (0:Rat) (hs0.mono (by decide)) (by rw[hq0];decide) W
 rw[hq0]at h
 exact tN_raw _ 0 true W h
theorem tNeg_n {x:Rat}(hx:LQ x)(p1:Option Addr)(c1:Nat)(s1:Option Addr)(d1:Nat)(W:World)(r1:RN W (.slice p1 (zlen (x).num) c1) (x).num.natAbs)(t1:RN W (.slice s1 (nlen (x).den) d1) (x).den):Calls Tryz.prog 28 #[.agg #[.bool (zneg (x).num),.slice p1 (zlen (x).num) c1,.slice s1 (nlen (x).den) d1]] W fun e w'=>∃ p c s d,e=.returned (.agg #[.bool (zneg (0-x).num),.slice p (zlen (0-x).num) c,.slice s (nlen (0-x).den) d])∧RN w' (.slice p (zlen (0-x).num) c) (0-x).num.natAbs∧RN w' (.slice s (nlen (0-x).den) d) (0-x).den∧Below W.heap.size W w' :=
 tNeg_raw x 0 (0-x) p1 c1 s1 d1 W tN0 (sQSub 0 x (0-x) rfl (hlq hs0 (by decide)) hx) r1 t1
theorem tFrom_n {x:Rat}{k:Nat}(hx:SmQ k x)(hk:k≤900)(W:World):Calls Tryz.prog 26 #[.string (Sq x)] W fun e w'=>∃ p c s d,e=.returned (.tuple #[.agg #[.bool (zneg (x).num),.slice p (zlen (x).num) c,.slice s (nlen (x).den) d],.bool true])∧RN w' (.slice p (zlen (x).num) c) (x).num.natAbs∧RN w' (.slice s (nlen (x).den) d) (x).den∧Below W.heap.size W w' :=
 sFromL x (hx.mono hk) (by have:=sq_size (hx.mono hk) (by decide);omega) W
theorem tVec_n {x y z:Rat}{k:Nat}(hx:SmQ k x)(hy:SmQ k y)(hz:SmQ k z)(hk:k≤900)(W:World):Calls Tryz.prog 24 #[.agg #[.string (Sq (x)),.string (Sq (y)),.string (Sq (z))]] W fun e w'=>∃ pa ca sa da pb cb sb db pc cc sc dc,e=.returned (.tuple #[.agg #[.bool (zneg x.num),.slice pa (zlen x.num) ca,.slice sa (nlen x.den) da,.bool (zneg y.num),.slice pb (zlen y.num) cb,.slice sb (nlen y.den) db,.bool (zneg z.num),.slice pc (zlen z.num) cc,.slice sc (nlen z.den) dc],.bool true])∧RN w' (.slice pa (zlen x.num) ca) x.num.natAbs∧RN w' (.slice sa (nlen x.den) da) x.den∧RN w' (.slice pb (zlen y.num) cb) y.num.natAbs∧RN w' (.slice sb (nlen y.den) db) y.den∧RN w' (.slice pc (zlen z.num) cc) z.num.natAbs∧RN w' (.slice sc (nlen z.den) dc) z.den∧Below W.heap.size W w' :=
 tVec_2 _ _ _ x y z true W (tFrom_n hx hk) (tFrom_n hy hk) (tFrom_n hz hk)
theorem ldot_n {x1 x2 x3 y1 y2 y3:Rat}{k:Nat}(hx1:SmQ k x1)(hx2:SmQ k x2)(hx3:SmQ k x3)(hy1:SmQ k y1)(hy2:SmQ k y2)(hy3:SmQ k y3)(hk:k≤900)(w:World):CV w 25 #[.agg #[.string (Sq (x1)),.string (Sq (x2)),.string (Sq (x3))],.agg #[.string (Sq (y1)),.string (Sq (y2)),.string (Sq (y3))]] (.string (Sq (dotR x1 x2 x3 y1 y2 y3))):=by
 intro W _
 have l:∀ {q:Rat},SmQ k q→LQ q:=fun h=>hlq h (by omega)
 have m1:=hx1.mul hy1
 have m2:=hx2.mul hy2
 have m3:=hx3.mul hy3
 have a1:=m1.add m2
 have a2:=a1.add m3
 exact ldot_raw _ _ _ _ _ _ _ true true x1 x2 x3 y1 y2 y3 _ W (tVec_n hx1 hx2 hx3 hk) (tVec_n hy1 hy2 hy3 hk) (fun p1a c1a s1a d1a p1b c1b s1b d1b p1c c1c s1c d1c p2a c2a s2a d2a p2b c2b s2b d2b p2c c2c s2c d2c W h0 h1 h2 h3 h4 h5 h6 h7 h8 h9 h10 h11=>tDot_raw x1 x2 x3 y1 y2 y3 (x1*y1) (x2*y2) (x3*y3) (x1*y1+x2*y2) (dotR x1 x2 x3 y1 y2 y3) p1a c1a s1a d1a p1b c1b s1b d1b p1c c1c s1c d1c p2a c2a s2a d2a p2b c2b s2b d2b p2c c2c s2c d2c W (sQMul x1 y1 _ rfl (l hx1) (l hy1)) (sQMul x2 y2 _ rfl (l hx2) (l hy2)) (sQAdd (x1*y1) (x2*y2) _ rfl (hlq m1 (by omega)) (hlq m2 (by omega))) (sQMul x3 y3 _ rfl (l hx3) (l hy3)) (sQAdd (x1*y1+x2*y2) (x3*y3) _ rfl (hlq a1 (by omega)) (hlq m3 (by omega))) h0 h1 h2 h3 h4 h5 h6 h7 h8 h9 h10 h11)
  (sQTo _ _ rfl (a2.mono (by omega)))
end Go.Proofs.YthjmjlfnpnbonaaGreatDoor
