/- Texts of this proof, one behind the other. -/
import Derived.Test.YtmigpoiajkihhaaGreatDoorMz51q
open Go.Proofs.Tryz
set_option maxRecDepth 100000
set_option maxHeartbeats 20000000
open Go.Lib (hid)
namespace Go.Proofs.YtmigpoiajkihhaaGreatDoor
open Go.RowKit Go.Gb
theorem z3h (a b:ByteArray)(xa xb ya yb:ByteArray)(k:Int)(hk:0<k)(w:World)(hl:La w)(h1:CL 45 #[.string a,.string b] (.tuple #[.agg #[.string xa,.string xb],.agg #[.string ya,.string yb],.bool true]))(h2:CL 46 #[.agg #[.string xa,.string xb],.agg #[.string ya,.string yb]] (.int .i64 k)) :
 CR 31 #[.string a,.string b] w (.tuple #[.string ⟨#[]⟩,.int .i64 5]):=by
 have HL:=hid hl
 have C1:=hid h1
 have C2:=hid h2
 have s0:decide (0<k)=true:=decide_eq_true hk
 have s1:0<k:=hk
 clear hk hl h1 h2
 go_enter func31,ntmps31
 have HB0:=hid (Below.refl w.heap.size w)
 go_wp2_with fail
 with_reducible refine(C1.out _ (HL.out.on HB0.out)).mono ?_
 rintro e W1 ⟨rfl,hb⟩
 have HB1:=hbt HB0 hb
 clear hb
 go_upto_region 2 with fail
 refine aK W1 [(#[.string xa,.string xb],44),(#[.string ya,.string yb],44)] rfl ?_
 have L1:=HB1.out.size
 rintro W2 ⟨k1,k2,hb⟩
 have hb:Below W1.heap.size W1 W2:=hb
 have HB2:=hbt HB1 hb
 have K1:=hid k1
 have K2:=hid k2
 clear k1 k2 hb
 have dK10:=K1.out.cell (i:=0) rfl
 have dK11:=K1.out.cell (i:=1) rfl
 have dK20:=K2.out.cell (i:=0) rfl
 have dK21:=K2.out.cell (i:=1) rfl
 go_wp2_with fail
 with_reducible refine(C2.out _ (HL.out.on HB2.out)).mono ?_
 rintro e W3 ⟨rfl,hb⟩
 clear dK10 dK11 dK20 dK21
 have HB3:=hbt HB2 hb
 clear hb
 go_wp2
 exact bodyPost_ret (v:=.tuple #[.string ⟨#[]⟩,.int .i64 5]) (by simp[results,results31,go_sem]) rfl ⟨rfl,HB3.out⟩
theorem z3Y (a b:ByteArray)(xa xb ya yb:ByteArray)(k sx sy:Int)(hk:k≤0)(hsy:0≤sy)(hsx:sx≤0)(w:World)(hl:La w)(h1:CL 45 #[.string a,.string b] (.tuple #[.agg #[.string xa,.string xb],.agg #[.string ya,.string yb],.bool true]))(h2:CL 46 #[.agg #[.string xa,.string xb],.agg #[.string ya,.string yb]] (.int .i64 k))(h3:CL 71 #[.string ya] (.int .i64 sy))(h4:CL 71 #[.string xa] (.int .i64 sx)) :
 CR 31 #[.string a,.string b] w (.tuple #[.string ⟨#[48]⟩,.int .i64 0]):=by
 have HL:=hid hl
 have C1:=hid h1
 have C2:=hid h2
 have C3:=hid h3
 have C4:=hid h4
 have s0:decide (0<k)=false:=decide_eq_false (by omega)
 have s1:¬ 0<k:=by omega
 clear hk
 have tsy0:decide (sy<0)=false:=by first|exact decide_eq_true (by omega)|exact decide_eq_false (by omega)
 have tsy1:¬ sy<0:=by omega
 have usx0:decide (sx≤0)=true:=by first|exact decide_eq_true (by omega)|exact decide_eq_false (by omega)
 have usx1:sx≤0:=by omega
 clear hsx hsy hl h1 h2 h3 h4
 go_enter func31,ntmps31
 have HB0:=hid (Below.refl w.heap.size w)
 go_wp2_with fail
 with_reducible refine(C1.out _ (HL.out.on HB0.out)).mono ?_
 rintro e W1 ⟨rfl,hb⟩
 have HB1:=hbt HB0 hb
 clear hb
 go_upto_region 2 with fail
 refine aK W1 [(#[.string xa,.string xb],44),(#[.string ya,.string yb],44)] rfl ?_
 have L1:=HB1.out.size
 rintro W2 ⟨k1,k2,hb⟩
 have hb:Below W1.heap.size W1 W2:=hb
 have HB2:=hbt HB1 hb
 have K1:=hid k1
 have K2:=hid k2
 clear k1 k2 hb
 have dK10:=K1.out.cell (i:=0) rfl
 have dK11:=K1.out.cell (i:=1) rfl
 have dK20:=K2.out.cell (i:=0) rfl
 have dK21:=K2.out.cell (i:=1) rfl
 go_wp2_with fail
 with_reducible refine(C2.out _ (HL.out.on HB2.out)).mono ?_
 rintro e W3 ⟨rfl,hb⟩
 clear dK10 dK11 dK20 dK21
 have K1:=hid (K1.out.below hb)
 have K2:=hid (K2.out.below hb)
 have HB3:=hbt HB2 hb
 clear hb
 have dK20:=K2.out.cell (i:=0) rfl
 go_wp2_with fail
 with_reducible refine(C3.out _ (HL.out.on HB3.out)).mono ?_
 rintro e W4 ⟨rfl,hb⟩
 clear dK20
 have K1:=hid (K1.out.below hb)
 have HB4:=hbt HB3 hb
 clear hb
 have dK10:=K1.out.cell (i:=0) rfl
 go_wp2_with fail
 with_reducible refine(C4.out _ (HL.out.on HB4.out)).mono ?_
 rintro e W5 ⟨rfl,hb⟩
 clear dK10
 have HB5:=hbt HB4 hb
 clear hb
 go_wp2
 exact bodyPost_ret (v:=.tuple #[.string ⟨#[48]⟩,.int .i64 0]) (by simp[results,results31,go_sem]) rfl ⟨rfl,HB5.out⟩
theorem z4B (a b:ByteArray)(xa xb ya yb n d r:ByteArray)(k sx sy:Int)(hk:k≤0)(hsy:0≤sy)(hsx:0<sx)(w:World)(hl:La w)(h1:CL 45 #[.string a,.string b] (.tuple #[.agg #[.string xa,.string xb],.agg #[.string ya,.string yb],.bool true]))(h2:CL 46 #[.agg #[.string xa,.string xb],.agg #[.string ya,.string yb]] (.int .i64 k))(h3:CL 71 #[.string ya] (.int .i64 sy))(h4:CL 71 #[.string xa] (.int .i64 sx))(h5:CL 72 #[.agg #[.string xa,.string xb],.agg #[.string ya,.string yb]] (.agg #[.string n,.string d]))(h6:CL 35 #[.agg #[.string n,.string d]] (.string r)) :
 CR 31 #[.string a,.string b] w (.tuple #[.string r,.int .i64 0]):=by
 have HL:=hid hl
 have C1:=hid h1
 have C2:=hid h2
 have C3:=hid h3
 have C4:=hid h4
 have C5:=hid h5
 have C6:=hid h6
 have s0:decide (0<k)=false:=decide_eq_false (by omega)
 have s1:¬ 0<k:=by omega
 clear hk
 have tsy0:decide (sy<0)=false:=by first|exact decide_eq_true (by omega)|exact decide_eq_false (by omega)
 have tsy1:¬ sy<0:=by omega
 have usx0:decide (sx≤0)=false:=by first|exact decide_eq_true (by omega)|exact decide_eq_false (by omega)
 have usx1:¬ sx≤0:=by omega
 clear hsx hsy hl h1 h2 h3 h4 h5 h6
 go_enter func31,ntmps31
 have HB0:=hid (Below.refl w.heap.size w)
 go_wp2_with fail
 with_reducible refine(C1.out _ (HL.out.on HB0.out)).mono ?_
 rintro e W1 ⟨rfl,hb⟩
 have HB1:=hbt HB0 hb
 clear hb
 go_upto_region 2 with fail
 refine aK W1 [(#[.string xa,.string xb],44),(#[.string ya,.string yb],44)] rfl ?_
 have L1:=HB1.out.size
 rintro W2 ⟨k1,k2,hb⟩
 have hb:Below W1.heap.size W1 W2:=hb
 have HB2:=hbt HB1 hb
 have K1:=hid k1
 have K2:=hid k2
 clear k1 k2 hb
 have dK10:=K1.out.cell (i:=0) rfl
 have dK11:=K1.out.cell (i:=1) rfl
 have dK20:=K2.out.cell (i:=0) rfl
 have dK21:=K2.out.cell (i:=1) rfl
 go_wp2_with fail
 with_reducible refine(C2.out _ (HL.out.on HB2.out)).mono ?_
 rintro e W3 ⟨rfl,hb⟩
 clear dK10 dK11 dK20 dK21
 have K1:=hid (K1.out.below hb)
 have K2:=hid (K2.out.below hb)
 have HB3:=hbt HB2 hb
 clear hb
 have dK20:=K2.out.cell (i:=0) rfl
 go_wp2_with fail
 with_reducible refine(C3.out _ (HL.out.on HB3.out)).mono ?_
 rintro e W4 ⟨rfl,hb⟩
 clear dK20
 have K1:=hid (K1.out.below hb)
 have K2:=hid (K2.out.below hb)
 have HB4:=hbt HB3 hb
 clear hb
 have dK10:=K1.out.cell (i:=0) rfl
 go_wp2_with fail
 with_reducible refine(C4.out _ (HL.out.on HB4.out)).mono ?_
 rintro e W5 ⟨rfl,hb⟩
 clear dK10
 have K1:=hid (K1.out.below hb)
 have K2:=hid (K2.out.below hb)
 have HB5:=hbt HB4 hb
 clear hb
 have dK10:=K1.out.cell (i:=0) rfl
 have dK11:=K1.out.cell (i:=1) rfl
 have dK20:=K2.out.cell (i:=0) rfl
 have dK21:=K2.out.cell (i:=1) rfl
 go_wp2_with fail
 with_reducible refine(C5.out _ (HL.out.on HB5.out)).mono ?_
 rintro e W6 ⟨rfl,hb⟩
 clear dK10 dK11 dK20 dK21
 have HB6:=hbt HB5 hb
 clear hb
 go_wp2_with fail
 with_reducible refine(C6.out _ (HL.out.on HB6.out)).mono ?_
 rintro e W7 ⟨rfl,hb⟩
 have HB7:=hbt HB6 hb
 clear hb
 go_wp2
 exact bodyPost_ret (v:=.tuple #[.string r,.int .i64 0]) (by simp[results,results31,go_sem]) rfl ⟨rfl,HB7.out⟩
theorem z4C (a b:ByteArray)(xa xb ya yb ua ub va vb n d m d' r:ByteArray)(k sy:Int)(hk:k≤0)(hsy:sy<0)(w:World)(hl:La w)(h1:CL 45 #[.string a,.string b] (.tuple #[.agg #[.string xa,.string xb],.agg #[.string ya,.string yb],.bool true]))(h2:CL 46 #[.agg #[.string xa,.string xb],.agg #[.string ya,.string yb]] (.int .i64 k))(h3:CL 71 #[.string ya] (.int .i64 sy))(h7:CL 73 #[.agg #[.string ya,.string yb]] (.agg #[.string va,.string vb]))(h8:CL 73 #[.agg #[.string xa,.string xb]] (.agg #[.string ua,.string ub]))(h5:CL 72 #[.agg #[.string va,.string vb],.agg #[.string ua,.string ub]] (.agg #[.string n,.string d]))(h9:CL 73 #[.agg #[.string n,.string d]] (.agg #[.string m,.string d']))(h6:CL 35 #[.agg #[.string m,.string d']] (.string r)) :
 CR 31 #[.string a,.string b] w (.tuple #[.string r,.int .i64 0]):=by
 have HL:=hid hl
 have C1:=hid h1
 have C2:=hid h2
 have C3:=hid h3
 have C7:=hid h7
 have C8:=hid h8
 have C5:=hid h5
 have C9:=hid h9
 have C6:=hid h6
 have s0:decide (0<k)=false:=decide_eq_false (by omega)
 have s1:¬ 0<k:=by omega
 clear hk
 have tsy0:decide (sy<0)=true:=by first|exact decide_eq_true (by omega)|exact decide_eq_false (by omega)
 have tsy1:sy<0:=by omega
 clear hsy hl h1 h2 h3 h7 h8 h5 h9 h6
 go_enter func31,ntmps31
 have HB0:=hid (Below.refl w.heap.size w)
 go_wp2_with fail
 with_reducible refine(C1.out _ (HL.out.on HB0.out)).mono ?_
 rintro e W1 ⟨rfl,hb⟩
 have HB1:=hbt HB0 hb
 clear hb
 go_upto_region 2 with fail
 refine aK W1 [(#[.string xa,.string xb],44),(#[.string ya,.string yb],44)] rfl ?_
 have L1:=HB1.out.size
 rintro W2 ⟨k1,k2,hb⟩
 have hb:Below W1.heap.size W1 W2:=hb
 have HB2:=hbt HB1 hb
 have K1:=hid k1
 have K2:=hid k2
 clear k1 k2 hb
 have dK10:=K1.out.cell (i:=0) rfl
 have dK11:=K1.out.cell (i:=1) rfl
 have dK20:=K2.out.cell (i:=0) rfl
 have dK21:=K2.out.cell (i:=1) rfl
 go_wp2_with fail
 with_reducible refine(C2.out _ (HL.out.on HB2.out)).mono ?_
 rintro e W3 ⟨rfl,hb⟩
 clear dK10 dK11 dK20 dK21
 have K1:=hid (K1.out.below hb)
 have K2:=hid (K2.out.below hb)
 have HB3:=hbt HB2 hb
 clear hb
 have dK20:=K2.out.cell (i:=0) rfl
 go_wp2_with fail
 with_reducible refine(C3.out _ (HL.out.on HB3.out)).mono ?_
 rintro e W4 ⟨rfl,hb⟩
 clear dK20
 have K1:=hid (K1.out.below hb)
 have K2:=hid (K2.out.below hb)
 have HB4:=hbt HB3 hb
 clear hb
 go_wp2_with fail
 refine aI (fun a0 a' V=>a'=⟨putL [(27,.agg #[.string ya,.string yb]),(28,.agg #[.string va,.string vb]),(29,.agg #[.string xa,.string xb]),(30,.agg #[.string ua,.string ub]),(31,.agg #[.string n,.string d]),(32,.agg #[.string m,.string d']),(33,.string r),(4,.string r),(5,.int .i64 0)] a0.tmps,a0.defers⟩∧Below w.heap.size w V) ?_ ?_
 · refine aF (by kernel_rfl) 9 0 (fun i=>[27,28,29,30,31,32,33,4,5].getD i 0) (RelR [Rel.val (.agg #[.string ya,.string yb]),Rel.val (.agg #[.string va,.string vb]),Rel.val (.agg #[.string xa,.string xb]),Rel.val (.agg #[.string ua,.string ub]),Rel.val (.agg #[.string n,.string d]),Rel.val (.agg #[.string m,.string d']),Rel.val (.string r),Rel.val (.string r),Rel.val (.int .i64 0)]) (fun W=>Below W4.heap.size W4 W) (fun _ _=>True) (by kernel_rfl) (by kernel_rfl) (by kernel_rfl) trivial (Below.refl _ _).drew ?_ ?_
   · intro listed a W i hI hD hrd him
     have HI:=hid hI
     have HD:=hid hD
     have Hr:=hid hrd
     clear hI hrd hD
     have y7:a.tmps[7]? = some (.pointer (some ⟨W1.heap.size+1,0,none⟩)):=HI.out.rest 7 (by decide)
     have y6:a.tmps[6]? = some (.pointer (some ⟨W1.heap.size,0,none⟩)):=HI.out.rest 6 (by decide)
     have dK20:=(K2.out.below HI.out.world).cell (i:=0) rfl
     have dK21:=(K2.out.below HI.out.world).cell (i:=1) rfl
     have dK10:=(K1.out.below HI.out.world).cell (i:=0) rfl
     have dK11:=(K1.out.below HI.out.world).cell (i:=1) rfl
     have X0:RV _ listed a 0 27 (.agg #[.string ya,.string yb]):=HI.out.rh
     have X2:RV _ listed a 2 29 (.agg #[.string xa,.string xb]):=HI.out.rh
     have X1:RV _ listed a 1 28 (.agg #[.string va,.string vb]):=HI.out.rh
     have X3:RV _ listed a 3 30 (.agg #[.string ua,.string ub]):=HI.out.rh
     have X4:RV _ listed a 4 31 (.agg #[.string n,.string d]):=HI.out.rh
     have X5:RV _ listed a 5 32 (.agg #[.string m,.string d']):=HI.out.rh
     have X6:RV _ listed a 6 33 (.string r):=HI.out.rh
     match i,him,Hr with
     | 0,_,Hi =>
       refine au rfl fun K' hK=>?_
       go_simp
       exact hK.out _ _ ⟨HI.out.pv Hi.out rfl,trivial⟩
     | 1,_,Hi =>
       have x0:=X0.g Hi.out (by kernel_rfl)
       refine au rfl fun K' hK=>?_
       go_simp
       with_reducible refine(C7.out _ (HL.out.on (HB4.out.trans (HI.out.world.mono HB4.out.size)))).mono ?_
       rintro e W' ⟨rfl,hb⟩
       exact hK.out _ _ ⟨HI.out.pc Hi.out hb rfl,trivial⟩
     | 2,_,Hi =>
       refine au rfl fun K' hK=>?_
       go_simp
       exact hK.out _ _ ⟨HI.out.pv Hi.out rfl,trivial⟩
     | 3,_,Hi =>
       have x2:=X2.g Hi.out (by kernel_rfl)
       refine au rfl fun K' hK=>?_
       go_simp
       with_reducible refine(C8.out _ (HL.out.on (HB4.out.trans (HI.out.world.mono HB4.out.size)))).mono ?_
       rintro e W' ⟨rfl,hb⟩
       exact hK.out _ _ ⟨HI.out.pc Hi.out hb rfl,trivial⟩
     | 4,_,Hi =>
       have x1:=X1.g Hi.out (by kernel_rfl)
       have x3:=X3.g Hi.out (by kernel_rfl)
       refine au rfl fun K' hK=>?_
       go_simp
       with_reducible refine(C5.out _ (HL.out.on (HB4.out.trans (HI.out.world.mono HB4.out.size)))).mono ?_
       rintro e W' ⟨rfl,hb⟩
       exact hK.out _ _ ⟨HI.out.pc Hi.out hb rfl,trivial⟩
     | 5,_,Hi =>
       have x4:=X4.g Hi.out (by kernel_rfl)
       refine au rfl fun K' hK=>?_
       go_simp
       with_reducible refine(C9.out _ (HL.out.on (HB4.out.trans (HI.out.world.mono HB4.out.size)))).mono ?_
       rintro e W' ⟨rfl,hb⟩
       exact hK.out _ _ ⟨HI.out.pc Hi.out hb rfl,trivial⟩
     | 6,_,Hi =>
       have x5:=X5.g Hi.out (by kernel_rfl)
       refine au rfl fun K' hK=>?_
       go_simp
       with_reducible refine(C6.out _ (HL.out.on (HB4.out.trans (HI.out.world.mono HB4.out.size)))).mono ?_
       rintro e W' ⟨rfl,hb⟩
       exact hK.out _ _ ⟨HI.out.pc Hi.out hb rfl,trivial⟩
     | 7,_,Hi =>
       have x6:=X6.g Hi.out (by kernel_rfl)
       refine au rfl fun K' hK=>?_
       go_simp
       exact hK.out _ _ ⟨HI.out.pv Hi.out rfl,trivial⟩
     | 8,_,Hi =>
       refine au rfl fun K' hK=>?_
       go_simp
       exact hK.out _ _ ⟨HI.out.pv Hi.out rfl,trivial⟩
     | n+9,h,_=>exact absurd h (by omega)
   · intro listed a W hI hD hall
     have HBW:=hid hI.world
     have HI:=hid hI
     have HA:=hid hall
     clear hI hall
     have HBX:=hid (HB4.out.trans (HBW.out.mono HB4.out.size))
     refine bD ?_
     exact⟨rfl,(HI.out.finx ⟨HI.out.sx HA.out 0,HI.out.sx HA.out 1,HI.out.sx HA.out 2,HI.out.sx HA.out 3,HI.out.sx HA.out 4,HI.out.sx HA.out 5,HI.out.sx HA.out 6,HI.out.sx HA.out 7,HI.out.sx HA.out 8,trivial⟩ rfl),HBX.out⟩
 rintro a' W5 ⟨rfl,z0⟩
 have HB5:=hid z0
 clear z0
 simp only[putL,List.setIfInBounds_toArray,List.set_cons_zero,List.set_cons_succ]
 go_wp2
 exact bodyPost_ret (v:=.tuple #[.string r,.int .i64 0]) (by simp[results,results31,go_sem]) rfl ⟨rfl,HB5.out⟩
theorem rZ (a b:ByteArray)(h:(vldQ a.data.toList&&vldQ b.data.toList)=false)(ha:a.size≤900)(hb:b.size≤900)(w:World)(hl:La w) :
 CR 31 #[.string a,.string b] w (.tuple #[.string ⟨#[]⟩,.int .i64 1]):=by
 have HL:=hid hl
 have C1:=hid (fun W (hW:La W)=>z0Y a b h ha hb W hW)
 clear hl h ha hb
 go_enter func31,ntmps31
 have HB0:=hid (Below.refl w.heap.size w)
 go_wp2_with fail
 with_reducible refine(C1.out _ (HL.out.on HB0.out)).mono ?_
 rintro e W1 ⟨s_1,b_1,t_1,c_1,rfl,hb⟩
 have HB1:=hbt HB0 hb
 clear hb
 go_upto_region 2 with fail
 refine aK W1 [(#[.string s_1,.string b_1],44),(#[.string t_1,.string c_1],44)] rfl ?_
 have L1:=HB1.out.size
 rintro W2 ⟨k1,k2,hb⟩
 have hb:Below W1.heap.size W1 W2:=hb
 have HB2:=hbt HB1 hb
 have K1:=hid k1
 have K2:=hid k2
 clear k1 k2 hb
 go_wp2
 exact bodyPost_ret (v:=.tuple #[.string ⟨#[]⟩,.int .i64 1]) (by simp[results,results31,go_sem]) rfl ⟨rfl,HB2.out⟩
theorem mO (x y:Rat)(h:y<x)(hx:FitQ x)(hy:FitQ y)(w:World)(hl:La w) :
 CR 31 #[.string (Sq x),.string (Sq y)] w (.tuple #[.string ⟨#[]⟩,.int .i64 5]) :=
 z3h (Sq x) (Sq y) _ _ _ _ (cmpQ x y) (by rw[vo h];decide) w hl (fun W hW=>dD x y hx hy W hW) (fun W hW=>jy x y _ rfl hx hy W hW)
theorem nX (x y:Rat)(h:x≤y)(h1:x.num≤0)(h2:0≤y.num)(hx:FitQ x)(hy:FitQ y)(w:World)(hl:La w) :
 CR 31 #[.string (Sq x),.string (Sq y)] w (.tuple #[.string ⟨#[48]⟩,.int .i64 0]) :=
 z3Y (Sq x) (Sq y) _ _ _ _ (cmpQ x y) x.num.sign y.num.sign (lw h) (uy h2) (uw h1) w hl (fun W hW=>dD x y hx hy W hW) (fun W hW=>jy x y _ rfl hx hy W hW) (fun W hW=>ik y.num _ rfl hy.numL W hW) (fun W hW=>ik x.num _ rfl hx.numL W hW)
theorem qf (x y:Rat)(h:x≤y)(h1:0<x.num)(h2:0<y.num)(hx:FitQ x)(hy:FitQ y)(w:World)(hl:La w) :
 CR 31 #[.string (Sq x),.string (Sq y)] w (.tuple #[.string (Sq (bJ x y)),.int .i64 0]):=by
 have ss:FitQ (bJ x y):=jS h1 h2 h hx
 exact z4B (Sq x) (Sq y) _ _ _ _ _ _ _ (cmpQ x y) x.num.sign y.num.sign (lw h) (uy (by omega)) (by rw[Int.sign_eq_one_of_pos h1];decide) w hl (fun W hW=>dD x y hx hy W hW) (fun W hW=>jy x y _ rfl hx hy W hW) (fun W hW=>ik y.num _ rfl hy.numL W hW) (fun W hW=>ik x.num _ rfl hx.numL W hW) (fun W hW=>iY x y h1 h2 h hx hy W hW) (fun W _=>wR (bJ x y) ss.numL ss.denL W)
theorem qg (x y:Rat)(h:x≤y)(h1:x.num<0)(h2:y.num<0)(hx:FitQ x)(hy:FitQ y)(w:World)(hl:La w) :
 CR 31 #[.string (Sq x),.string (Sq y)] w (.tuple #[.string (Sq (-(bJ (-y) (-x)))),.int .i64 0]):=by
 have hn : -y ≤ -x:=Rat.neg_le_neg h
 have p1:0<(-y).num:=by show 0 < -y.num;omega
 have p2:0<(-x).num:=by show 0 < -x.num;omega
 have ss:FitQ (bJ (-y) (-x)):=jS p1 p2 hn hy.neg
 exact z4C (Sq x) (Sq y) _ _ _ _ _ _ _ _ _ _ _ _ _ (cmpQ x y) y.num.sign (lw h) (by rw[Int.sign_eq_neg_one_of_neg h2];decide) w hl (fun W hW=>dD x y hx hy W hW) (fun W hW=>jy x y _ rfl hx hy W hW) (fun W hW=>ik y.num _ rfl hy.numL W hW) (fun W hW=>fneg y hy W hW) (fun W hW=>fneg x hx W hW) (fun W hW=>iY (-y) (-x) p1 p2 hn hy.neg hx.neg W hW) (fun W hW=>fneg _ ss W hW) (fun W _=>wR (-(bJ (-y) (-x))) ss.neg.numL ss.neg.denL W)
end Go.Proofs.YtmigpoiajkihhaaGreatDoor
set_option maxRecDepth 100000
set_option maxHeartbeats 20000000
open Go.Lib (hid)
namespace Go.Proofs.YtmigpoiajkihhaaGreatDoor
open Go.RowKit Go.Gb
theorem xI (a b:ByteArray)(hab:60<a.size∨60<b.size)(w:World)(hl:La w) :
 CR 6 #[.string a,.string b] w (.bool true):=by
 have HT:=hid hl
 clear hl
 have HL:=hid hab
 clear hab
 go_enter func6,ntmps6
 go_wp2_with fail
 refine(mM _ HT.out).mono ?_
 rintro e w1 ⟨rfl,hb1⟩
 have HB1:=hid (hb1.alloc hb1.size (.cells #[.string a,.string b] 22))
 have hc:=eT w1 a b
 have HLo:=hid (zN w1.heap.size a b _ HL.out hc)
 clear hb1 hc
 go_wp2_with fail
 refine HLo.out.mono ?_
 rintro e w' ⟨rfl,rfl⟩
 go_wp2_with fail
 refine(mM _ (HT.out.on HB1.out)).mono ?_
 rintro e w2 ⟨rfl,hb⟩
 have HB2:=hbt HB1 hb
 clear hb
 go_wp2
 go_ret
 exact⟨rfl,HB2.out⟩
theorem z0V (a b:ByteArray)(ha:a.size≤60)(hb:b.size≤60)(hv:(vldQ a.data.toList&&vldQ b.data.toList)=false)(w:World)(hl:La w) :
 CR 6 #[.string a,.string b] w (.bool true):=by
 have HT:=hid hl
 clear hl
 have Hla:=hid ha
 have Hma:=hid (show a.size≤900 by omega)
 have Hlb:=hid hb
 have Hmb:=hid (show b.size≤900 by omega)
 clear ha hb
 have HV:=hid hv
 clear hv
 go_enter func6,ntmps6
 go_wp2_with fail
 refine(mM _ HT.out).mono ?_
 rintro e w1 ⟨rfl,hb1⟩
 have HB1:=hid (hb1.alloc hb1.size (.cells #[.string a,.string b] 22))
 have hc:=eT w1 a b
 have HLo:=hid (ko w1.heap.size a b _ Hla.out Hlb.out hc)
 clear hb1 hc
 go_wp2_with fail
 refine HLo.out.mono ?_
 rintro e w' ⟨rfl,rfl⟩
 go_wp2_with fail
 refine(rZ a b HV.out Hma.out Hmb.out _ (HT.out.on HB1.out)).mono ?_
 rintro e w2 ⟨rfl,hb⟩
 have HB2:=hbt HB1 hb
 clear hb
 go_wp2_with fail
 refine(pF a b HV.out Hma.out Hmb.out _).mono ?_
 rintro e w3 ⟨rfl,hb⟩
 have HB3:=hbt HB2 hb
 clear hb
 go_wp2
 go_ret
 exact⟨rfl,HB3.out⟩
theorem uE (x y:Rat)(sa:(Sq x).size≤60)(sb:(Sq y).size≤60)(h:y<x)(w:World)(hl:La w) :
 CR 6 #[.string (Sq x),.string (Sq y)] w (.bool true):=by
 have HT:=hid hl
 clear hl
 have SA:=hid sa
 have SB:=hid sb
 have kx:SmQ 900 x:=(jE sa (by decide)).mono (by decide)
 have ky:SmQ 900 y:=(jE sb (by decide)).mono (by decide)
 have mx:(Sq x).size≤1000:=by omega
 have my:(Sq y).size≤1000:=by omega
 have C1:=hid (fun(W:World) (T:La W)=>mO x y h kx ky W T)
 have C2:=hid (fun(W:World)=>lL x y h kx ky mx my W)
 clear sa sb kx ky mx my h
 generalize Sq x=a at *
 generalize Sq y=b at *
 go_enter func6,ntmps6
 go_wp2_with fail
 refine(mM _ HT.out).mono ?_
 rintro e w1 ⟨rfl,hb1⟩
 have HB1:=hid (hb1.alloc hb1.size (.cells #[.string a,.string b] 22))
 have hc:=eT w1 a b
 have HLo:=hid (ko w1.heap.size a b _ SA.out SB.out hc)
 clear hb1 hc
 go_wp2_with fail
 refine HLo.out.mono ?_
 rintro e w' ⟨rfl,rfl⟩
 go_wp2_with fail
 refine(C1.out _ (HT.out.on HB1.out)).mono ?_
 rintro e w2 ⟨rfl,hb⟩
 have HB2:=hbt HB1 hb
 clear hb
 go_wp2_with fail
 refine(C2.out _).mono ?_
 rintro e w3 ⟨rfl,hb⟩
 have HB3:=hbt HB2 hb
 clear hb
 go_wp2
 go_ret
 exact⟨rfl,HB3.out⟩
theorem xH (x y:Rat)(sa:(Sq x).size≤60)(sb:(Sq y).size≤60)(h:x≤y)(h1:x.num≤0)(h2:0≤y.num)(w:World)(hl:La w) :
 CR 6 #[.string (Sq x),.string (Sq y)] w (.bool true):=by
 have HT:=hid hl
 clear hl
 have SA:=hid sa
 have SB:=hid sb
 have kx:SmQ 900 x:=(jE sa (by decide)).mono (by decide)
 have ky:SmQ 900 y:=(jE sb (by decide)).mono (by decide)
 have mx:(Sq x).size≤1000:=by omega
 have my:(Sq y).size≤1000:=by omega
 have C1:=hid (fun(W:World) (T:La W)=>nX x y h h1 h2 kx ky W T)
 have C2:=hid (fun(W:World)=>mF x y h h1 h2 kx ky mx my W)
 clear sa sb kx ky mx my h h1 h2
 generalize Sq x=a at *
 generalize Sq y=b at *
 go_enter func6,ntmps6
 go_wp2_with fail
 refine(mM _ HT.out).mono ?_
 rintro e w1 ⟨rfl,hb1⟩
 have HB1:=hid (hb1.alloc hb1.size (.cells #[.string a,.string b] 22))
 have hc:=eT w1 a b
 have HLo:=hid (ko w1.heap.size a b _ SA.out SB.out hc)
 clear hb1 hc
 go_wp2_with fail
 refine HLo.out.mono ?_
 rintro e w' ⟨rfl,rfl⟩
 go_wp2_with fail
 refine(C1.out _ (HT.out.on HB1.out)).mono ?_
 rintro e w2 ⟨rfl,hb⟩
 have HB2:=hbt HB1 hb
 clear hb
 go_wp2_with fail
 refine(C2.out _).mono ?_
 rintro e w3 ⟨rfl,hb⟩
 have HB3:=hbt HB2 hb
 clear hb
 go_wp2
 go_ret
 exact⟨rfl,HB3.out⟩
theorem zl (x y:Rat)(sa:(Sq x).size≤60)(sb:(Sq y).size≤60)(h:x≤y)(h1:0<x.num)(h2:0<y.num)(w:World)(hl:La w) :
 CR 6 #[.string (Sq x),.string (Sq y)] w (.bool true):=by
 have HT:=hid hl
 clear hl
 have SA:=hid sa
 have SB:=hid sb
 have kx:SmQ 900 x:=(jE sa (by decide)).mono (by decide)
 have ky:SmQ 900 y:=(jE sb (by decide)).mono (by decide)
 have mx:(Sq x).size≤1000:=by omega
 have my:(Sq y).size≤1000:=by omega
 have C1:=hid (fun(W:World) (T:La W)=>qf x y h h1 h2 kx ky W T)
 have C2:=hid (fun(W:World)=>nT x y h h1 h2 kx ky mx my W)
 clear sa sb kx ky mx my h h1 h2
 generalize Sq (bJ x y)=r at *
 generalize Sq x=a at *
 generalize Sq y=b at *
 go_enter func6,ntmps6
 go_wp2_with fail
 refine(mM _ HT.out).mono ?_
 rintro e w1 ⟨rfl,hb1⟩
 have HB1:=hid (hb1.alloc hb1.size (.cells #[.string a,.string b] 22))
 have hc:=eT w1 a b
 have HLo:=hid (ko w1.heap.size a b _ SA.out SB.out hc)
 clear hb1 hc
 go_wp2_with fail
 refine HLo.out.mono ?_
 rintro e w' ⟨rfl,rfl⟩
 go_wp2_with fail
 refine(C1.out _ (HT.out.on HB1.out)).mono ?_
 rintro e w2 ⟨rfl,hb⟩
 have HB2:=hbt HB1 hb
 clear hb
 go_wp2_with fail
 refine(C2.out _).mono ?_
 rintro e w3 ⟨rfl,hb⟩
 have HB3:=hbt HB2 hb
 clear hb
 go_wp2
 go_ret
 exact⟨rfl,HB3.out⟩
theorem zm (x y:Rat)(sa:(Sq x).size≤60)(sb:(Sq y).size≤60)(h:x≤y)(h1:x.num<0)(h2:y.num<0)(w:World)(hl:La w) :
 CR 6 #[.string (Sq x),.string (Sq y)] w (.bool true):=by
 have HT:=hid hl
 clear hl
 have SA:=hid sa
 have SB:=hid sb
 have kx:SmQ 900 x:=(jE sa (by decide)).mono (by decide)
 have ky:SmQ 900 y:=(jE sb (by decide)).mono (by decide)
 have mx:(Sq x).size≤1000:=by omega
 have my:(Sq y).size≤1000:=by omega
 have C1:=hid (fun(W:World) (T:La W)=>qg x y h h1 h2 kx ky W T)
 have C2:=hid (fun(W:World)=>nU x y h h1 h2 kx ky mx my W)
 clear sa sb kx ky mx my h h1 h2
 generalize Sq (-(bJ (-y) (-x)))=r at *
 generalize Sq x=a at *
 generalize Sq y=b at *
 go_enter func6,ntmps6
 go_wp2_with fail
 refine(mM _ HT.out).mono ?_
 rintro e w1 ⟨rfl,hb1⟩
 have HB1:=hid (hb1.alloc hb1.size (.cells #[.string a,.string b] 22))
 have hc:=eT w1 a b
 have HLo:=hid (ko w1.heap.size a b _ SA.out SB.out hc)
 clear hb1 hc
 go_wp2_with fail
 refine HLo.out.mono ?_
 rintro e w' ⟨rfl,rfl⟩
 go_wp2_with fail
 refine(C1.out _ (HT.out.on HB1.out)).mono ?_
 rintro e w2 ⟨rfl,hb⟩
 have HB2:=hbt HB1 hb
 clear hb
 go_wp2_with fail
 refine(C2.out _).mono ?_
 rintro e w3 ⟨rfl,hb⟩
 have HB3:=hbt HB2 hb
 clear hb
 go_wp2
 go_ret
 exact⟨rfl,HB3.out⟩
theorem z3P {x y:Rat}(h:x≤y)(hy:y.num<0):x.num<0:=by
 rw[Rat.le_iff]at h
 have:=y.den_pos
 have h2:y.num*(x.den:Int)<0:=Int.mul_neg_of_neg_of_pos hy (by have:=x.den_pos;omega)
 rcases Int.lt_or_le x.num 0 with h3|h3
 · exact h3
 · have:=Int.mul_nonneg h3 (show 0≤(y.den:Int) by omega)
   omega
theorem z2M {x y:Rat}(h:x≤y)(hx:0<x.num):0<y.num:=by
 rw[Rat.le_iff]at h
 have:=x.den_pos
 have h2:0<x.num*(y.den:Int):=Int.mul_pos hx (by have:=y.den_pos;omega)
 rcases Int.lt_or_le 0 y.num with h3|h3
 · exact h3
 · have:=Int.mul_nonpos_of_nonpos_of_nonneg h3 (show 0≤(x.den:Int) by omega)
   omega
theorem zn (a b:ByteArray)(w:World)(hl:La w) :
 CR 6 #[.string a,.string b] w (.bool true):=by
 by_cases hab:60<a.size∨60<b.size
 · exact xI a b hab w hl
 · have ha:a.size≤60:=by omega
   have hb:b.size≤60:=by omega
   cases hv:(vldQ a.data.toList&&vldQ b.data.toList) with
   | false=>exact z0V a b ha hb hv w hl
   | true =>
     have hv':=hv
     rw[Bool.and_eq_true]at hv'
     have ea:=z0I hv'.1
     have eb:=z0I hv'.2
     generalize qval a.data.toList=x at ea
     generalize qval b.data.toList=y at eb
     subst ea
     subst eb
     by_cases h:y<x
     · exact uE x y ha hb h w hl
     · have h:=Rat.not_lt.1 h
       by_cases h1:0<x.num
       · exact zl x y ha hb h h1 (z2M h h1) w hl
       · by_cases h2:y.num<0
         · exact zm x y ha hb h (z3P h h2) h2 w hl
         · exact xH x y ha hb h (by omega) (by omega) w hl
end Go.Proofs.YtmigpoiajkihhaaGreatDoor
