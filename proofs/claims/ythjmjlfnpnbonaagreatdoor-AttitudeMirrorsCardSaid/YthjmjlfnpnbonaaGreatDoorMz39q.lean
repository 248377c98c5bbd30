/- Texts of this proof, one behind the other. -/
import Derived.Test.YthjmjlfnpnbonaaGreatDoorQf
import Derived.Carry
set_option maxRecDepth 100000
set_option maxHeartbeats 20000000
open Go.Lib (hid)
namespace Go.Proofs.YthjmjlfnpnbonaaGreatDoor
open Go.RowKit Go.Gb
def Nix (w:World):Prop:=w=w
theorem nix (w:World):Nix w:=rfl
theorem cmp_nan (x:Int)(w:World):Calls Tryz.prog 167 #[.int .i64 x] w fun e w'=>e=.returned (.bool false)∧w=w':=by
 go_enter Tryz.func167,Tryz.ntmps167
 go_wp2
 go_ret
 exact⟨rfl,rfl⟩
theorem cmp64_lt (x y:Int)(h:x<y)(w:World):Calls Tryz.prog 143 #[.int .i64 x,.int .i64 y] w fun e w'=>e=.returned (.int .i64 (-1))∧w=w':=by
 have h1:x<y:=h
 clear h
 go_enter Tryz.func143,Tryz.ntmps143
 go_wp2_with fail
 refine(cmp_nan _ _).mono ?_
 rintro e w' ⟨rfl,rfl⟩
 go_wp2_with fail
 refine(cmp_nan _ _).mono ?_
 rintro e w' ⟨rfl,rfl⟩
 go_wp2
 go_ret
 exact⟨rfl,rfl⟩
theorem cmp64_eq (x:Int)(w:World):Calls Tryz.prog 143 #[.int .i64 x,.int .i64 x] w fun e w'=>e=.returned (.int .i64 0)∧w=w':=by
 go_enter Tryz.func143,Tryz.ntmps143
 go_wp2_with fail
 refine(cmp_nan _ _).mono ?_
 rintro e w' ⟨rfl,rfl⟩
 go_wp2_with fail
 refine(cmp_nan _ _).mono ?_
 rintro e w' ⟨rfl,rfl⟩
 go_wp2
 go_ret
 exact⟨rfl,rfl⟩
theorem cmp64_gt (x y:Int)(h:y<x)(w:World):Calls Tryz.prog 143 #[.int .i64 x,.int .i64 y] w fun e w'=>e=.returned (.int .i64 1)∧w=w':=by
 have h1:decide (x<y)=false:=by rw[decide_eq_false_iff_not];omega
 have h2:y<x:=h
 clear h
 go_enter Tryz.func143,Tryz.ntmps143
 go_wp2_with fail
 refine(cmp_nan _ _).mono ?_
 rintro e w' ⟨rfl,rfl⟩
 go_wp2_with fail
 refine(cmp_nan _ _).mono ?_
 rintro e w' ⟨rfl,rfl⟩
 go_wp2
 go_ret
 exact⟨rfl,rfl⟩
theorem cmp64 (x y:Int)(w:World):Calls Tryz.prog 143 #[.int .i64 x,.int .i64 y] w fun e w'=>e=.returned (.int .i64 (cmpZ x y))∧w=w':=by
 rcases Int.lt_trichotomy x y with h|h|h
 · rw[cmpZ_lt h];exact cmp64_lt x y h w
 · subst h;rw[cmpZ_eq];exact cmp64_eq x w
 · rw[cmpZ_gt h];exact cmp64_gt x y h w
theorem rfmt (z:Int)(h0 : -9223372036854775808≤z)(h1:z≤9223372036854775807)(w:World)(hl:La w) :
 CR 133 #[.int .i64 z,.int .i64 10] w (.string (Sz z)):=by
 refine(Tryz.strconv_FormatInt_10 z h0 h1 w hl.tb).mono ?_
 rintro e w' ⟨rfl,k,os,rfl⟩
 refine⟨by rw[itoa_sz],Lib.below_grow w.heap.size w (Nat.le_refl _) k os⟩
theorem small_mul {a b:Int}(ha:a.natAbs<1000000000)(hb:b.natAbs<1000000000):(a*b).natAbs<1000000000000000000:=by
 rw[Int.natAbs_mul]
 have h:=Nat.mul_le_mul (Nat.le_of_lt_succ ha) (Nat.le_of_lt_succ hb)
 have h2:(999999999:Nat)*999999999<1000000000000000000:=by decide
 exact Nat.lt_of_le_of_lt h h2
theorem sadd (x1 x2 y1 y2:Int)(hx1:x1.natAbs<1000000000)(hx2:x2.natAbs<1000000000)(hy1:y1.natAbs<1000000000)(hy2:y2.natAbs<1000000000)(w:World) :
 CR 106 #[.agg #[.int .i64 x1,.int .i64 x2],.agg #[.int .i64 y1,.int .i64 y2]] w (.agg #[.int .i64 (x1*y2+y1*x2),.int .i64 (x2*y2)]):=by
 obtain⟨p,hp⟩:∃ p:Int,x1*y2=p:=⟨_,rfl⟩
 have bp:p.natAbs<1000000000000000000:=by rw[← hp];exact small_mul hx1 hy2
 have vp:IntKind.i64.wrap p=p:=IntWalk.i64_in _ (by omega)
 obtain⟨q,hq⟩:∃ p:Int,y1*x2=p:=⟨_,rfl⟩
 have bq:q.natAbs<1000000000000000000:=by rw[← hq];exact small_mul hy1 hx2
 have vq:IntKind.i64.wrap q=q:=IntWalk.i64_in _ (by omega)
 obtain⟨r,hr⟩:∃ p:Int,x2*y2=p:=⟨_,rfl⟩
 have br:r.natAbs<1000000000000000000:=by rw[← hr];exact small_mul hx2 hy2
 have vr:IntKind.i64.wrap r=r:=IntWalk.i64_in _ (by omega)
 have vs:IntKind.i64.wrap (p+q)=p+q:=IntWalk.i64_in _ (by omega)
 rw[hp,hq,hr]
 clear hx1 hx2 hy1 hy2 bp bq br
 go_enter Tryz.func106,Tryz.ntmps106
 go_wp2
 refine bodyPost_ret (v:=.agg #[.int .i64 (p+q),.int .i64 r]) (by simp[results,Tryz.results106,go_sem]) rfl ⟨rfl,?_⟩
 repeat (first|exact Below.refl _ _|refine Below.setCell ?_ (by first|omega|(simp;omega)|simp) _|refine Below.alloc ?_ (by first|omega|(simp;omega)|simp) _|refine Below.drew ?_)
theorem ssub (x1 x2 y1 y2:Int)(hx1:x1.natAbs<1000000000)(hx2:x2.natAbs<1000000000)(hy1:y1.natAbs<1000000000)(hy2:y2.natAbs<1000000000)(w:World) :
 CR 108 #[.agg #[.int .i64 x1,.int .i64 x2],.agg #[.int .i64 y1,.int .i64 y2]] w (.agg #[.int .i64 (x1*y2-y1*x2),.int .i64 (x2*y2)]):=by
 obtain⟨p,hp⟩:∃ p:Int,x1*y2=p:=⟨_,rfl⟩
 have bp:p.natAbs<1000000000000000000:=by rw[← hp];exact small_mul hx1 hy2
 have vp:IntKind.i64.wrap p=p:=IntWalk.i64_in _ (by omega)
 obtain⟨q,hq⟩:∃ p:Int,y1*x2=p:=⟨_,rfl⟩
 have bq:q.natAbs<1000000000000000000:=by rw[← hq];exact small_mul hy1 hx2
 have vq:IntKind.i64.wrap q=q:=IntWalk.i64_in _ (by omega)
 obtain⟨r,hr⟩:∃ p:Int,x2*y2=p:=⟨_,rfl⟩
 have br:r.natAbs<1000000000000000000:=by rw[← hr];exact small_mul hx2 hy2
 have vr:IntKind.i64.wrap r=r:=IntWalk.i64_in _ (by omega)
 have vs:IntKind.i64.wrap (p-q)=p-q:=IntWalk.i64_in _ (by omega)
 rw[hp,hq,hr]
 clear hx1 hx2 hy1 hy2 bp bq br
 go_enter Tryz.func108,Tryz.ntmps108
 go_wp2
 refine bodyPost_ret (v:=.agg #[.int .i64 (p-q),.int .i64 r]) (by simp[results,Tryz.results108,go_sem]) rfl ⟨rfl,?_⟩
 repeat (first|exact Below.refl _ _|refine Below.setCell ?_ (by first|omega|(simp;omega)|simp) _|refine Below.alloc ?_ (by first|omega|(simp;omega)|simp) _|refine Below.drew ?_)
theorem smul (x1 x2 y1 y2:Int)(hx1:x1.natAbs<1000000000)(hx2:x2.natAbs<1000000000)(hy1:y1.natAbs<1000000000)(hy2:y2.natAbs<1000000000)(w:World) :
 CR 110 #[.agg #[.int .i64 x1,.int .i64 x2],.agg #[.int .i64 y1,.int .i64 y2]] w (.agg #[.int .i64 (x1*y1),.int .i64 (x2*y2)]):=by
 obtain⟨p,hp⟩:∃ p:Int,x1*y1=p:=⟨_,rfl⟩
 have bp:p.natAbs<1000000000000000000:=by rw[← hp];exact small_mul hx1 hy1
 have vp:IntKind.i64.wrap p=p:=IntWalk.i64_in _ (by omega)
 obtain⟨r,hr⟩:∃ p:Int,x2*y2=p:=⟨_,rfl⟩
 have br:r.natAbs<1000000000000000000:=by rw[← hr];exact small_mul hx2 hy2
 have vr:IntKind.i64.wrap r=r:=IntWalk.i64_in _ (by omega)
 rw[hp,hr]
 clear hx1 hx2 hy1 hy2 bp br
 go_enter Tryz.func110,Tryz.ntmps110
 go_wp2
 refine bodyPost_ret (v:=.agg #[.int .i64 p,.int .i64 r]) (by simp[results,Tryz.results110,go_sem]) rfl ⟨rfl,?_⟩
 repeat (first|exact Below.refl _ _|refine Below.setCell ?_ (by first|omega|(simp;omega)|simp) _|refine Below.alloc ?_ (by first|omega|(simp;omega)|simp) _|refine Below.drew ?_)
theorem sdiv (x1 x2 y1 y2:Int)(hx1:x1.natAbs<1000000000)(hx2:x2.natAbs<1000000000)(hy1:y1.natAbs<1000000000)(hy2:y2.natAbs<1000000000)(w:World) :
 CR 112 #[.agg #[.int .i64 x1,.int .i64 x2],.agg #[.int .i64 y1,.int .i64 y2]] w (.agg #[.int .i64 (x1*y2),.int .i64 (x2*y1)]):=by
 obtain⟨p,hp⟩:∃ p:Int,x1*y2=p:=⟨_,rfl⟩
 have bp:p.natAbs<1000000000000000000:=by rw[← hp];exact small_mul hx1 hy2
 have vp:IntKind.i64.wrap p=p:=IntWalk.i64_in _ (by omega)
 obtain⟨r,hr⟩:∃ p:Int,x2*y1=p:=⟨_,rfl⟩
 have br:r.natAbs<1000000000000000000:=by rw[← hr];exact small_mul hx2 hy1
 have vr:IntKind.i64.wrap r=r:=IntWalk.i64_in _ (by omega)
 rw[hp,hr]
 clear hx1 hx2 hy1 hy2 bp br
 go_enter Tryz.func112,Tryz.ntmps112
 go_wp2
 refine bodyPost_ret (v:=.agg #[.int .i64 p,.int .i64 r]) (by simp[results,Tryz.results112,go_sem]) rfl ⟨rfl,?_⟩
 repeat (first|exact Below.refl _ _|refine Below.setCell ?_ (by first|omega|(simp;omega)|simp) _|refine Below.alloc ?_ (by first|omega|(simp;omega)|simp) _|refine Below.drew ?_)
theorem scmp (x1 x2 y1 y2 c:Int)(hx1:x1.natAbs<1000000000)(hx2:x2.natAbs<1000000000)(hy1:y1.natAbs<1000000000)(hy2:y2.natAbs<1000000000)(hc:cmpZ (x1*y2) (y1*x2)=c)(w:World) :
 CR 126 #[.agg #[.int .i64 x1,.int .i64 x2],.agg #[.int .i64 y1,.int .i64 y2]] w (.int .i64 c):=by
 obtain⟨p,hp⟩:∃ p:Int,x1*y2=p:=⟨_,rfl⟩
 have bp:p.natAbs<1000000000000000000:=by rw[← hp];exact small_mul hx1 hy2
 have vp:IntKind.i64.wrap p=p:=IntWalk.i64_in _ (by omega)
 obtain⟨q,hq⟩:∃ p:Int,y1*x2=p:=⟨_,rfl⟩
 have bq:q.natAbs<1000000000000000000:=by rw[← hq];exact small_mul hy1 hx2
 have vq:IntKind.i64.wrap q=q:=IntWalk.i64_in _ (by omega)
 rw[hp,hq]at hc
 subst hc
 clear hx1 hx2 hy1 hy2 bp bq
 go_enter Tryz.func126,Tryz.ntmps126
 go_wp2_with fail
 refine(cmp64 _ _ _).mono ?_
 rintro e w' ⟨rfl,rfl⟩
 go_wp2
 go_ret
 refine⟨rfl,?_⟩
 repeat (first|exact Below.refl _ _|refine Below.setCell ?_ (by first|omega|(simp;omega)|simp) _|refine Below.alloc ?_ (by first|omega|(simp;omega)|simp) _|refine Below.drew ?_)
theorem swrite_neg_one (a b g u n:Int)(t1 t2:ByteArray)(hn : -a=n)(hd : -b=g)(hb:b<0)(ba:a.natAbs≤4000000000000000000)(hg:0<g)(bg:g≤4000000000000000000)
 (hu:n.tdiv g=u) (bu:u.natAbs≤4000000000000000000) (w:World) (hl:La w)
 (s1:t1.size≤1000) (s2:t2.size≤1000)
 (h1:CQ 123 #[.int .i64 n,.int .i64 g] (.int .i64 g))
 (h2:CL 133 #[.int .i64 u,.int .i64 10] (.string t1)) :
 CR 115 #[.agg #[.int .i64 a,.int .i64 b]] w (.string t1):=by
 have k1:b<0:=hb
 have x1:IntKind.i64.wrap (-a)=n:=by rw[← hn];exact IntWalk.i64_in _ (by omega)
 have x2:IntKind.i64.wrap (-b)=g:=by rw[← hd];exact IntWalk.i64_in _ (by omega)
 clear hn hd
 have C1:=hid h1
 have C2:=hid h2
 have HL:=hid hl
 have g0:(g==0)=false:=by rw[beq_eq_false_iff_ne];omega
 have wu:IntKind.i64.wrap u=u:=IntWalk.i64_in _ (by omega)
 have z1:(⟨#[47]⟩:ByteArray).size=1:=rfl
 have z2:(t1++⟨#[47]⟩:ByteArray).size=t1.size+1:=by rw[ByteArray.size_append,z1]
 have e1:=fun W:World=>run_string_add_sum (P:=Tryz.prog) W t1 ⟨#[47]⟩ (by rw[z1];omega)
 have e2:=fun W:World=>run_string_add_sum (P:=Tryz.prog) W (t1++⟨#[47]⟩) t2 (by rw[z2];omega)
 have HB0:=hid ((Below.refl w.heap.size w).alloc (Nat.le_refl _) (.cells #[.int .i64 a,.int .i64 b] 148))
 have gg:¬ g=0:=by omega
 clear h1 h2  hl hb ba hg bg bu s1 s2 z1 z2
 go_enter Tryz.func115,Tryz.ntmps115
 go_wp2
 go_region
 go_wp2_with fail
 refine(C1.out _).mono ?_
 rintro e w1 ⟨rfl,hb⟩
 have HB1:=hid (HB0.out.drew.trans (hb.mono HB0.out.drew.size))
 clear hb
 go_wp2_with fail
 refine(C2.out _ (HL.out.on HB1.out)).mono ?_
 rintro e w2 ⟨rfl,hb⟩
 have HB2:=hbt HB1 hb
 clear hb
 go_wp2
 go_ret
 exact⟨rfl,HB2.out⟩
theorem swrite_neg_more (a b g u v n d:Int)(t1 t2:ByteArray)(hn : -a=n)(hd : -b=d)(hb:b<0)(ba:a.natAbs≤4000000000000000000)(bb:b.natAbs≤4000000000000000000)(hg:0<g)(bg:g≤4000000000000000000)
 (hu:n.tdiv g=u) (bu:u.natAbs≤4000000000000000000) (hv:d.tdiv g=v) (bv:v.natAbs≤4000000000000000000) (he:(d==g)=false) (w:World) (hl:La w)
 (s1:t1.size≤1000) (s2:t2.size≤1000)
 (h1:CQ 123 #[.int .i64 n,.int .i64 d] (.int .i64 g))
 (h2:CL 133 #[.int .i64 u,.int .i64 10] (.string t1))
 (h3:CL 133 #[.int .i64 v,.int .i64 10] (.string t2)) :
 CR 115 #[.agg #[.int .i64 a,.int .i64 b]] w (.string (t1++⟨#[47]⟩++t2)):=by
 have k1:b<0:=hb
 have x1:IntKind.i64.wrap (-a)=n:=by rw[← hn];exact IntWalk.i64_in _ (by omega)
 have x2:IntKind.i64.wrap (-b)=d:=by rw[← hd];exact IntWalk.i64_in _ (by omega)
 clear hn hd
 have C1:=hid h1
 have C2:=hid h2
 have C3:=hid h3
 have HL:=hid hl
 have g0:(g==0)=false:=by rw[beq_eq_false_iff_ne];omega
 have wu:IntKind.i64.wrap u=u:=IntWalk.i64_in _ (by omega)
 have wv:IntKind.i64.wrap v=v:=IntWalk.i64_in _ (by omega)
 have z1:(⟨#[47]⟩:ByteArray).size=1:=rfl
 have z2:(t1++⟨#[47]⟩:ByteArray).size=t1.size+1:=by rw[ByteArray.size_append,z1]
 have e1:=fun W:World=>run_string_add_sum (P:=Tryz.prog) W t1 ⟨#[47]⟩ (by rw[z1];omega)
 have e2:=fun W:World=>run_string_add_sum (P:=Tryz.prog) W (t1++⟨#[47]⟩) t2 (by rw[z2];omega)
 have HB0:=hid ((Below.refl w.heap.size w).alloc (Nat.le_refl _) (.cells #[.int .i64 a,.int .i64 b] 148))
 have gg:¬ g=0:=by omega
 clear h1 h2 h3 bv hl hb ba bb hg bg bu s1 s2 z1 z2
 go_enter Tryz.func115,Tryz.ntmps115
 go_wp2
 go_region
 go_wp2_with fail
 refine(C1.out _).mono ?_
 rintro e w1 ⟨rfl,hb⟩
 have HB1:=hid (HB0.out.drew.trans (hb.mono HB0.out.drew.size))
 clear hb
 go_wp2_with fail
 go_region_held3 (fun w'=>Nix w') (first|exact nix _)
  (first
   | (go_at_call 133;(with_reducible refine(C2.out _ ?la1).mono ?_);(case la1=>first|exact HL.out.on HB1.out|exact HL.out.on HB1.out.drew);rintro e w2 ⟨rfl,hb⟩;have HB2:=hid (show Below w.heap.size w w2 by first|exact HB1.out.trans (hb.mono HB1.out.size)|exact HB1.out.drew.trans (hb.mono HB1.out.drew.size));clear hb)
   | (go_at_call 133;(with_reducible refine(C3.out _ ?la2).mono ?_);(case la2=>first|exact HL.out.on HB2.out|exact HL.out.on HB2.out.drew);rintro e w3 ⟨rfl,hb⟩;have HB3:=hid (show Below w.heap.size w w3 by first|exact HB2.out.trans (hb.mono HB2.out.size)|exact HB2.out.drew.trans (hb.mono HB2.out.drew.size));clear hb)
   | fail)
 all_goals
  go_wp2
  go_ret
  exact⟨rfl,by first|exact HB3.out|exact HB3.out.drew⟩
theorem swrite_pos_one (a g u:Int)(t1 t2:ByteArray)(hb:0<g)   (bg:g≤4000000000000000000)
 (hu:a.tdiv g=u) (bu:u.natAbs≤4000000000000000000) (w:World) (hl:La w)
 (s1:t1.size≤1000) (s2:t2.size≤1000)
 (h1:CQ 123 #[.int .i64 a,.int .i64 g] (.int .i64 g))
 (h2:CL 133 #[.int .i64 u,.int .i64 10] (.string t1)) :
 CR 115 #[.agg #[.int .i64 a,.int .i64 g]] w (.string t1):=by
 have k1:decide (g<0)=false:=by rw[decide_eq_false_iff_not];omega
 have C1:=hid h1
 have C2:=hid h2
 have HL:=hid hl
 have g0:(g==0)=false:=by rw[beq_eq_false_iff_ne];omega
 have wu:IntKind.i64.wrap u=u:=IntWalk.i64_in _ (by omega)
 have z1:(⟨#[47]⟩:ByteArray).size=1:=rfl
 have z2:(t1++⟨#[47]⟩:ByteArray).size=t1.size+1:=by rw[ByteArray.size_append,z1]
 have e1:=fun W:World=>run_string_add_sum (P:=Tryz.prog) W t1 ⟨#[47]⟩ (by rw[z1];omega)
 have e2:=fun W:World=>run_string_add_sum (P:=Tryz.prog) W (t1++⟨#[47]⟩) t2 (by rw[z2];omega)
 have HB0:=hid ((Below.refl w.heap.size w).alloc (Nat.le_refl _) (.cells #[.int .i64 a,.int .i64 g] 148))
 have gg:¬ g=0:=by omega
 clear h1 h2  hl hb bg bu s1 s2 z1 z2
 go_enter Tryz.func115,Tryz.ntmps115
 go_wp2
 go_region
 go_wp2_with fail
 refine(C1.out _).mono ?_
 rintro e w1 ⟨rfl,hb⟩
 have HB1:=hid (HB0.out.drew.trans (hb.mono HB0.out.drew.size))
 clear hb
 go_wp2_with fail
 refine(C2.out _ (HL.out.on HB1.out)).mono ?_
 rintro e w2 ⟨rfl,hb⟩
 have HB2:=hbt HB1 hb
 clear hb
 go_wp2
 go_ret
 exact⟨rfl,HB2.out⟩
theorem swrite_pos_more (a b g u v:Int)(t1 t2:ByteArray)(hb:0<b)  (hg:0<g)(bg:g≤4000000000000000000)
 (hu:a.tdiv g=u) (bu:u.natAbs≤4000000000000000000) (hv:b.tdiv g=v) (bv:v.natAbs≤4000000000000000000) (he:(b==g)=false) (w:World) (hl:La w)
 (s1:t1.size≤1000) (s2:t2.size≤1000)
 (h1:CQ 123 #[.int .i64 a,.int .i64 b] (.int .i64 g))
 (h2:CL 133 #[.int .i64 u,.int .i64 10] (.string t1))
 (h3:CL 133 #[.int .i64 v,.int .i64 10] (.string t2)) :
 CR 115 #[.agg #[.int .i64 a,.int .i64 b]] w (.string (t1++⟨#[47]⟩++t2)):=by
 have k1:decide (b<0)=false:=by rw[decide_eq_false_iff_not];omega
 have C1:=hid h1
 have C2:=hid h2
 have C3:=hid h3
 have HL:=hid hl
 have g0:(g==0)=false:=by rw[beq_eq_false_iff_ne];omega
 have wu:IntKind.i64.wrap u=u:=IntWalk.i64_in _ (by omega)
 have wv:IntKind.i64.wrap v=v:=IntWalk.i64_in _ (by omega)
 have z1:(⟨#[47]⟩:ByteArray).size=1:=rfl
 have z2:(t1++⟨#[47]⟩:ByteArray).size=t1.size+1:=by rw[ByteArray.size_append,z1]
 have e1:=fun W:World=>run_string_add_sum (P:=Tryz.prog) W t1 ⟨#[47]⟩ (by rw[z1];omega)
 have e2:=fun W:World=>run_string_add_sum (P:=Tryz.prog) W (t1++⟨#[47]⟩) t2 (by rw[z2];omega)
 have HB0:=hid ((Below.refl w.heap.size w).alloc (Nat.le_refl _) (.cells #[.int .i64 a,.int .i64 b] 148))
 have gg:¬ g=0:=by omega
 clear h1 h2 h3 bv hl hb hg bg bu s1 s2 z1 z2
 go_enter Tryz.func115,Tryz.ntmps115
 go_wp2
 go_region
 go_wp2_with fail
 refine(C1.out _).mono ?_
 rintro e w1 ⟨rfl,hb⟩
 have HB1:=hid (HB0.out.drew.trans (hb.mono HB0.out.drew.size))
 clear hb
 go_wp2_with fail
 go_region_held3 (fun w'=>Nix w') (first|exact nix _)
  (first
   | (go_at_call 133;(with_reducible refine(C2.out _ ?la1).mono ?_);(case la1=>first|exact HL.out.on HB1.out|exact HL.out.on HB1.out.drew);rintro e w2 ⟨rfl,hb⟩;have HB2:=hid (show Below w.heap.size w w2 by first|exact HB1.out.trans (hb.mono HB1.out.size)|exact HB1.out.drew.trans (hb.mono HB1.out.drew.size));clear hb)
   | (go_at_call 133;(with_reducible refine(C3.out _ ?la2).mono ?_);(case la2=>first|exact HL.out.on HB2.out|exact HL.out.on HB2.out.drew);rintro e w3 ⟨rfl,hb⟩;have HB3:=hid (show Below w.heap.size w w3 by first|exact HB2.out.trans (hb.mono HB2.out.size)|exact HB2.out.drew.trans (hb.mono HB2.out.drew.size));clear hb)
   | fail)
 all_goals
  go_wp2
  go_ret
  exact⟨rfl,by first|exact HB3.out|exact HB3.out.drew⟩
end Go.Proofs.YthjmjlfnpnbonaaGreatDoor
set_option maxRecDepth 100000
set_option maxHeartbeats 20000000
open Go.Lib (hid)
namespace Go.Proofs.YthjmjlfnpnbonaaGreatDoor
open Go.RowKit Go.Gb
theorem max_int (a b:Int):(if b>a then b else a)=max a b:=by rw[Int.max_def];split<;>split<;>omega
theorem run_max4 {P:Program}(w:World)(ts:Array TypeId)(t:TypeId)(k:IntKind)(a b c d:Int) :
 (Builtin.max_ ts t #[.int k a,.int k b,.int k c,.int k d]).run P w=.ok (.int k (max (max (max a b) c) d)) w:=by
 simp[Builtin.max_,Builtin.max2,← max_int]
theorem smallBoth_no (x1 x2 y1 y2:ByteArray)(h:9<x1.size∨9<x2.size∨9<y1.size∨9<y2.size)(w:World) :
 CR 114 #[.agg #[.string x1,.string x2],.agg #[.string y1,.string y2]] w (.tuple #[.agg #[.int .i64 0,.int .i64 0],.agg #[.int .i64 0,.int .i64 0],.bool false]):=by
 have hm := @run_max4 Tryz.prog
 have k1:9<max (max (max (x1.size:Int) (x2.size:Int)) (y1.size:Int)) (y2.size:Int):=by omega
 clear h
 go_enter Tryz.func114,Tryz.ntmps114
 go_wp2
 refine bodyPost_ret (v:=.tuple #[.agg #[.int .i64 0,.int .i64 0],.agg #[.int .i64 0,.int .i64 0],.bool false]) (by simp[results,Tryz.results114,go_sem]) rfl ⟨rfl,?_⟩
 repeat (first|exact Below.refl _ _|refine Below.setCell ?_ (by first|omega|(simp;omega)|simp) _|refine Below.alloc ?_ (by first|omega|(simp;omega)|simp) _|refine Below.drew ?_)
theorem smallBoth_raw (x1 x2 y1 y2:ByteArray)(a b c d:Int)(h:x1.size≤9∧x2.size≤9∧y1.size≤9∧y2.size≤9)(w:World)
 (h1:CQ 124 #[.string x1] (.int .i64 a))
 (h2:CQ 124 #[.string x2] (.int .i64 b))
 (h3:CQ 124 #[.string y1] (.int .i64 c))
 (h4:CQ 124 #[.string y2] (.int .i64 d)) :
 CR 114 #[.agg #[.string x1,.string x2],.agg #[.string y1,.string y2]] w (.tuple #[.agg #[.int .i64 a,.int .i64 b],.agg #[.int .i64 c,.int .i64 d],.bool true]):=by
 have hm := @run_max4 Tryz.prog
 have k1:decide (9<max (x1.size:Int) (max (x2.size:Int) (max (y1.size:Int) (y2.size:Int))))=false:=by rw[decide_eq_false_iff_not];omega
 clear h
 have C1:=hid h1
 have C2:=hid h2
 have C3:=hid h3
 have C4:=hid h4
 obtain⟨w0,hw0⟩:∃ w0:World,w0=((((w.alloc (.cells #[.string x1,.string x2] 128)).alloc (.cells #[.string y1,.string y2] 128)).alloc (.cells #[.int .i64 0,.int .i64 0] 148)).alloc (.cells #[.int .i64 0,.int .i64 0] 148)):=⟨_,rfl⟩
 have hz0:w0.heap.size=w.heap.size+4:=by rw[hw0];simp
 have hB0:Below w.heap.size w w0:=by
  rw[hw0]
  repeat (first|exact Below.refl _ _|refine Below.setCell ?_ (by first|omega|(simp;omega)|simp) _|refine Below.alloc ?_ (by first|omega|(simp;omega)|simp) _|refine Below.drew ?_)
 have hS0:w0.cell? ⟨w.heap.size,0,none⟩=some (.string x1)∧w0.cell? ⟨w.heap.size,1,none⟩=some (.string x2)∧w0.cell? ⟨w.heap.size+1,0,none⟩=some (.string y1)∧w0.cell? ⟨w.heap.size+1,1,none⟩=some (.string y2):=by rw[hw0];exact⟨((q_lt).trans ((q_lt).trans ((q_lt).trans ((q_new).trans rfl)))),((q_lt).trans ((q_lt).trans ((q_lt).trans ((q_new).trans rfl)))),((q_lt).trans ((q_lt).trans ((q_new).trans rfl))),((q_lt).trans ((q_lt).trans ((q_new).trans rfl)))⟩
 have KS:=hid (show ∀ W:World,Below w0.heap.size w0 W→(W.cell? ⟨w.heap.size,0,none⟩=some (.string x1)∧W.cell? ⟨w.heap.size,1,none⟩=some (.string x2)∧W.cell? ⟨w.heap.size+1,0,none⟩=some (.string y1)∧W.cell? ⟨w.heap.size+1,1,none⟩=some (.string y2)) from fun W hB=>by
  obtain⟨c0,c1,c2,c3⟩:=hS0
  exact⟨(hB.cell (p:=⟨w.heap.size,0,none⟩) (by show w.heap.size<_;omega)).trans c0,(hB.cell (p:=⟨w.heap.size,1,none⟩) (by show w.heap.size<_;omega)).trans c1,(hB.cell (p:=⟨w.heap.size+1,0,none⟩) (by show w.heap.size+1<_;omega)).trans c2,(hB.cell (p:=⟨w.heap.size+1,1,none⟩) (by show w.heap.size+1<_;omega)).trans c3⟩)
 have KZ:=hid (show ∀ W:World,Below w0.heap.size w0 W→w.heap.size+4≤W.heap.size from fun W hB=>by have:=hB.size;omega)
 have KB:=hid (show ∀ W:World,Below w0.heap.size w0 W→Below w.heap.size w W from fun W hB=>hB0.trans (hB.mono (by omega)))
 have hR0:w0.cell? ⟨w.heap.size+1+1,0,none⟩=some (.int .i64 0)∧w0.cell? ⟨w.heap.size+1+1,1,none⟩=some (.int .i64 0)∧w0.cell? ⟨w.heap.size+1+1+1,0,none⟩=some (.int .i64 0)∧w0.cell? ⟨w.heap.size+1+1+1,1,none⟩=some (.int .i64 0)∧w0.frozen? ⟨w.heap.size+1+1,0,none⟩=false∧w0.frozen? ⟨w.heap.size+1+1,1,none⟩=false∧w0.frozen? ⟨w.heap.size+1+1+1,0,none⟩=false∧w0.frozen? ⟨w.heap.size+1+1+1,1,none⟩=false:=by rw[hw0];exact⟨((q_lt).trans ((q_new).trans rfl)),((q_lt).trans ((q_new).trans rfl)),((q_new).trans rfl),((q_new).trans rfl),((fq_lt).trans (fq_new)),((fq_lt).trans (fq_new)),(fq_new),(fq_new)⟩
 have KR:=hid (show ∀ W:World,Below w0.heap.size w0 W→(W.cell? ⟨w.heap.size+1+1,0,none⟩=some (.int .i64 0)∧W.cell? ⟨w.heap.size+1+1,1,none⟩=some (.int .i64 0)∧W.cell? ⟨w.heap.size+1+1+1,0,none⟩=some (.int .i64 0)∧W.cell? ⟨w.heap.size+1+1+1,1,none⟩=some (.int .i64 0)∧W.frozen? ⟨w.heap.size+1+1,0,none⟩=false∧W.frozen? ⟨w.heap.size+1+1,1,none⟩=false∧W.frozen? ⟨w.heap.size+1+1+1,0,none⟩=false∧W.frozen? ⟨w.heap.size+1+1+1,1,none⟩=false) from fun W hB=>by
  obtain⟨c0,c1,c2,c3,f0,f1,f2,f3⟩:=hR0
  exact⟨(hB.cell (p:=⟨w.heap.size+1+1,0,none⟩) (by show w.heap.size+1+1<_;omega)).trans c0,(hB.cell (p:=⟨w.heap.size+1+1,1,none⟩) (by show w.heap.size+1+1<_;omega)).trans c1,(hB.cell (p:=⟨w.heap.size+1+1+1,0,none⟩) (by show w.heap.size+1+1+1<_;omega)).trans c2,(hB.cell (p:=⟨w.heap.size+1+1+1,1,none⟩) (by show w.heap.size+1+1+1<_;omega)).trans c3,(hB.frozen (p:=⟨w.heap.size+1+1,0,none⟩) (by show w.heap.size+1+1<_;omega)).trans f0,(hB.frozen (p:=⟨w.heap.size+1+1,1,none⟩) (by show w.heap.size+1+1<_;omega)).trans f1,(hB.frozen (p:=⟨w.heap.size+1+1+1,0,none⟩) (by show w.heap.size+1+1+1<_;omega)).trans f2,(hB.frozen (p:=⟨w.heap.size+1+1+1,1,none⟩) (by show w.heap.size+1+1+1<_;omega)).trans f3⟩)
 clear hR0
 have KT0:=hid (show ∀ (W:World) (v u:Value),Below w0.heap.size w0 W→(((W.setCell ⟨w.heap.size+1+1,0,none⟩ v).setCell ⟨w.heap.size+1+1,1,none⟩ u).cell? ⟨w.heap.size,0,none⟩=some (.string x1)∧((W.setCell ⟨w.heap.size+1+1,0,none⟩ v).setCell ⟨w.heap.size+1+1,1,none⟩ u).cell? ⟨w.heap.size,1,none⟩=some (.string x2)∧((W.setCell ⟨w.heap.size+1+1,0,none⟩ v).setCell ⟨w.heap.size+1+1,1,none⟩ u).cell? ⟨w.heap.size+1,0,none⟩=some (.string y1)∧((W.setCell ⟨w.heap.size+1+1,0,none⟩ v).setCell ⟨w.heap.size+1+1,1,none⟩ u).cell? ⟨w.heap.size+1,1,none⟩=some (.string y2)) from fun W v u hB=>by
  have hh:=KS.out W hB
  obtain⟨c0,c1,c2,c3⟩:=hh
  exact⟨(q_set (by omega)).trans ((q_set (by omega)).trans c0),(q_set (by omega)).trans ((q_set (by omega)).trans c1),(q_set (by omega)).trans ((q_set (by omega)).trans c2),(q_set (by omega)).trans ((q_set (by omega)).trans c3)⟩)
 have KT1:=hid (show ∀ (W:World) (v u:Value),Below w0.heap.size w0 W→(((W.setCell ⟨w.heap.size+1+1+1,0,none⟩ v).setCell ⟨w.heap.size+1+1+1,1,none⟩ u).cell? ⟨w.heap.size,0,none⟩=some (.string x1)∧((W.setCell ⟨w.heap.size+1+1+1,0,none⟩ v).setCell ⟨w.heap.size+1+1+1,1,none⟩ u).cell? ⟨w.heap.size,1,none⟩=some (.string x2)∧((W.setCell ⟨w.heap.size+1+1+1,0,none⟩ v).setCell ⟨w.heap.size+1+1+1,1,none⟩ u).cell? ⟨w.heap.size+1,0,none⟩=some (.string y1)∧((W.setCell ⟨w.heap.size+1+1+1,0,none⟩ v).setCell ⟨w.heap.size+1+1+1,1,none⟩ u).cell? ⟨w.heap.size+1,1,none⟩=some (.string y2)) from fun W v u hB=>by
  have hh:=KS.out W hB
  obtain⟨c0,c1,c2,c3⟩:=hh
  exact⟨(q_set (by omega)).trans ((q_set (by omega)).trans c0),(q_set (by omega)).trans ((q_set (by omega)).trans c1),(q_set (by omega)).trans ((q_set (by omega)).trans c2),(q_set (by omega)).trans ((q_set (by omega)).trans c3)⟩)
 have KT2:=hid (show ∀ (W:World) (v u v2 u2:Value),Below w0.heap.size w0 W→(((((W.setCell ⟨w.heap.size+1+1,0,none⟩ v).setCell ⟨w.heap.size+1+1,1,none⟩ u).setCell ⟨w.heap.size+1+1+1,0,none⟩ v2).setCell ⟨w.heap.size+1+1+1,1,none⟩ u2).cell? ⟨w.heap.size,0,none⟩=some (.string x1)∧((((W.setCell ⟨w.heap.size+1+1,0,none⟩ v).setCell ⟨w.heap.size+1+1,1,none⟩ u).setCell ⟨w.heap.size+1+1+1,0,none⟩ v2).setCell ⟨w.heap.size+1+1+1,1,none⟩ u2).cell? ⟨w.heap.size,1,none⟩=some (.string x2)∧((((W.setCell ⟨w.heap.size+1+1,0,none⟩ v).setCell ⟨w.heap.size+1+1,1,none⟩ u).setCell ⟨w.heap.size+1+1+1,0,none⟩ v2).setCell ⟨w.heap.size+1+1+1,1,none⟩ u2).cell? ⟨w.heap.size+1,0,none⟩=some (.string y1)∧((((W.setCell ⟨w.heap.size+1+1,0,none⟩ v).setCell ⟨w.heap.size+1+1,1,none⟩ u).setCell ⟨w.heap.size+1+1+1,0,none⟩ v2).setCell ⟨w.heap.size+1+1+1,1,none⟩ u2).cell? ⟨w.heap.size+1,1,none⟩=some (.string y2)) from fun W v u v2 u2 hB=>by
  have hh:=KS.out W hB
  obtain⟨c0,c1,c2,c3⟩:=hh
  exact⟨(q_set (by omega)).trans ((q_set (by omega)).trans ((q_set (by omega)).trans ((q_set (by omega)).trans c0))),(q_set (by omega)).trans ((q_set (by omega)).trans ((q_set (by omega)).trans ((q_set (by omega)).trans c1))),(q_set (by omega)).trans ((q_set (by omega)).trans ((q_set (by omega)).trans ((q_set (by omega)).trans c2))),(q_set (by omega)).trans ((q_set (by omega)).trans ((q_set (by omega)).trans ((q_set (by omega)).trans c3)))⟩)
 have F0:=hid (Below.refl w0.heap.size w0)
 have HW0:=hid hw0
 clear hz0 hB0 hS0 hw0 h1 h2 h3 h4
 go_enter Tryz.func114,Tryz.ntmps114
 go_wp2_with fail
 rw[← HW0.out]
 obtain⟨d0,d1,d2,d3⟩:=KS.out _ F0.out
 go_wp2_with fail
 go_region_held3 (fun w'=>w'.cell? ⟨w.heap.size,0,none⟩=some (.string x1)∧w'.cell? ⟨w.heap.size,1,none⟩=some (.string x2)∧w'.cell? ⟨w.heap.size+1,0,none⟩=some (.string y1)∧w'.cell? ⟨w.heap.size+1,1,none⟩=some (.string y2)) (first|(with_reducible exact KS.out _ F4.out)|(with_reducible exact KS.out _ F4.out.drew)|(with_reducible exact KS.out _ F3.out)|(with_reducible exact KS.out _ F3.out.drew)|(with_reducible exact KS.out _ F2.out)|(with_reducible exact KS.out _ F2.out.drew)|(with_reducible exact KS.out _ F1.out)|(with_reducible exact KS.out _ F1.out.drew)|(with_reducible exact KS.out _ F0.out)|(with_reducible exact KS.out _ F0.out.drew)|(with_reducible exact KT2.out _ _ _ _ _ F4.out)|(with_reducible exact KT2.out _ _ _ _ _ F4.out.drew)|(with_reducible exact KT0.out _ _ _ F4.out)|(with_reducible exact KT0.out _ _ _ F4.out.drew)|(with_reducible exact KT1.out _ _ _ F4.out)|(with_reducible exact KT1.out _ _ _ F4.out.drew))
  (first
   | (go_at_call 124;(with_reducible refine(C1.out _).mono ?_);rintro e w1 ⟨rfl,hb⟩;have F1:=hid (show Below w0.heap.size w0 w1 by first|exact fr_chain F0.out hb|exact fr_chain F0.out.drew hb);clear hb)
   | (go_at_call 124;(with_reducible refine(C2.out _).mono ?_);rintro e w2 ⟨rfl,hb⟩;have F2:=hid (show Below w0.heap.size w0 w2 by first|exact fr_chain F1.out hb|exact fr_chain F1.out.drew hb);clear hb)
   | (go_at_call 124;(with_reducible refine(C3.out _).mono ?_);rintro e w3 ⟨rfl,hb⟩;have F3:=hid (show Below w0.heap.size w0 w3 by first|exact fr_chain F2.out hb|exact fr_chain F2.out.drew hb);clear hb)
   | (go_at_call 124;(with_reducible refine(C4.out _).mono ?_);rintro e w4 ⟨rfl,hb⟩;have F4:=hid (show Below w0.heap.size w0 w4 by first|exact fr_chain F3.out hb|exact fr_chain F3.out.drew hb);clear hb;have hz:=KZ.out _ F4.out;obtain⟨m0,m1,m2,m3,n0,n1,n2,n3⟩:=KR.out _ F4.out)
   | fail)
 all_goals
  have hz:=KZ.out _ F4.out
  go_wp2
  refine bodyPost_ret (v:=.tuple #[.agg #[.int .i64 a,.int .i64 b],.agg #[.int .i64 c,.int .i64 d],.bool true]) (by simp[results,Tryz.results114,go_sem,m0,m1,m2,m3]) rfl ⟨rfl,?_⟩
  repeat (first|exact KB.out _ F4.out|refine Below.setCell ?_ (by first|omega|(simp;omega)|simp) _|refine Below.alloc ?_ (by first|omega|(simp;omega)|simp) _|refine Below.drew ?_)
end Go.Proofs.YthjmjlfnpnbonaaGreatDoor
namespace Go.Gb
open Go Go.MapKept Go.RowKit
structure PutAt (b:Nat) (es:Array MapEntry) (clock:Nat) (w w':World):Prop where
 below:Below b w w'
 size:w'.heap.size=w.heap.size
 here:w'.heap[b]? = some (.map es clock)
theorem map_put {P:Program}(w:World)(t k e:TypeId)(d:TypeDesc)(ht:P.underlying t=some (.map k e))(hd:P.underlying k=some d)(b:Nat)(es:Array MapEntry)(clock:Nat)
 (hb:w.heap[b]? = some (.map es clock)) (key val:Value) (hk:IsKey d key) (hf:Instr.findNow d key es.toList 0=some none) :
 ∃ w',(Instr.mapUpdate t (.map (some b)) key val).run P w=.ok () w'∧PutAt b (es.push ⟨key,val,clock⟩) (clock+1) w w':=by
 have hrun:(Instr.mapUpdate t (.map (some b)) key val).run P w=.ok () { w with heap:=w.heap.setIfInBounds b (.map (es.push ⟨key,val,clock⟩) (clock+1)) }:=by
  simp[Instr.mapUpdate,run_underlying ht,MapKept.run_getObj_map hb,MapKept.run_checkKey hd hk,MapKept.run_findKey hd hf,MapKept.run_setObj_map _ hb,Result.andThen]
 refine⟨_,hrun,?_⟩
 have hlt:b<w.heap.size:=by
  rcases Nat.lt_or_ge b w.heap.size with h|h
  · exact h
  · rw[Array.getElem?_eq_none h]at hb;cases hb
 refine⟨⟨rfl,rfl,rfl,by simp,fun i hi=>?_⟩,by simp,?_⟩
 · show(w.heap.setIfInBounds b _)[i]? = w.heap[i]?
   rw[Array.getElem?_setIfInBounds_ne (by omega)]
 · show(w.heap.setIfInBounds b _)[b]? = _
   rw[Array.getElem?_setIfInBounds_self_of_lt hlt]
theorem map_get {P:Program}(w:World)(t k e:TypeId)(d:TypeDesc)(ht:P.underlying t=some (.map k e))(hd:P.underlying k=some d)(b:Nat)(es:Array MapEntry)(clock:Nat)
 (hb:w.heap[b]? = some (.map es clock)) (key:Value) (hk:IsKey d key) (i:Nat) (val:Value) (hf:Instr.findNow d key es.toList 0=some (some (i,val))) :
 (Instr.lookup t (.map (some b)) key false).run P w=.ok val w:=by
 simp[Instr.lookup,run_underlying ht,MapKept.run_getObj_map hb,MapKept.run_checkKey hd hk,MapKept.run_findKey hd hf,Result.andThen]
end Go.Gb
