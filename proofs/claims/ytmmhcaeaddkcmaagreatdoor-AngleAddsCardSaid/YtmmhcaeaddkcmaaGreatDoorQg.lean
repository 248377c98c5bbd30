/- rational: small numbers: cmp.Compare, FormatInt, addSmall .., compareSmall, small.write, smallBoth: walks. -/
import Derived.Test.YtmmhcaeaddkcmaaGreatDoorQf
set_option maxRecDepth 100000
set_option maxHeartbeats 20000000
open Go.Lib (hid)
namespace Go.Proofs.YtmmhcaeaddkcmaaGreatDoor
open Go.RowKit Go.Gb
def Nix (w:World):Prop:=w=w
theorem nix (w:World):Nix w:=rfl
theorem cmp_nan (x:Int)(w:World):Calls Tryz.prog 98 #[.int .i64 x] w fun e w'=>e=.returned (.bool false)∧w=w':=by
 go_enter Tryz.func98,Tryz.ntmps98
 go_wp2
 go_ret
 exact⟨rfl,rfl⟩
theorem cmp64_lt (x y:Int)(h:x<y)(w:World):Calls Tryz.prog 76 #[.int .i64 x,.int .i64 y] w fun e w'=>e=.returned (.int .i64 (-1))∧w=w':=by
 have h1:x<y:=h
 clear h
 go_enter Tryz.func76,Tryz.ntmps76
 go_wp2_with fail
 refine(cmp_nan _ _).mono ?_
 rintro e w' ⟨rfl,rfl⟩
 go_wp2_with fail
 refine(cmp_nan _ _).mono ?_
 rintro e w' ⟨rfl,rfl⟩
 go_wp2
 go_ret
 exact⟨rfl,rfl⟩
theorem cmp64_eq (x:Int)(w:World):Calls Tryz.prog 76 #[.int .i64 x,.int .i64 x] w fun e w'=>e=.returned (.int .i64 0)∧w=w':=by
 go_enter Tryz.func76,Tryz.ntmps76
 go_wp2_with fail
 refine(cmp_nan _ _).mono ?_
 rintro e w' ⟨rfl,rfl⟩
 go_wp2_with fail
 refine(cmp_nan _ _).mono ?_
 rintro e w' ⟨rfl,rfl⟩
 go_wp2
 go_ret
 exact⟨rfl,rfl⟩
theorem cmp64_gt (x y:Int)(h:y<x)(w:World):Calls Tryz.prog 76 #[.int .i64 x,.int .i64 y] w fun e w'=>e=.returned (.int .i64 1)∧w=w':=by
 have h1:decide (x<y)=false:=by rw[decide_eq_false_iff_not];omega
 have h2:y<x:=h
 clear h
 go_enter Tryz.func76,Tryz.ntmps76
 go_wp2_with fail
 refine(cmp_nan _ _).mono ?_
 rintro e w' ⟨rfl,rfl⟩
 go_wp2_with fail
 refine(cmp_nan _ _).mono ?_
 rintro e w' ⟨rfl,rfl⟩
 go_wp2
 go_ret
 exact⟨rfl,rfl⟩
theorem cmp64 (x y:Int)(w:World):Calls Tryz.prog 76 #[.int .i64 x,.int .i64 y] w fun e w'=>e=.returned (.int .i64 (cmpZ x y))∧w=w':=by
 rcases Int.lt_trichotomy x y with h|h|h
 · rw[cmpZ_lt h];exact cmp64_lt x y h w
 · subst h;rw[cmpZ_eq];exact cmp64_eq x w
 · rw[cmpZ_gt h];exact cmp64_gt x y h w
theorem rfmt (z:Int)(h0 : -9223372036854775808≤z)(h1:z≤9223372036854775807)(w:World)(hl:La w) :
 CR 72 #[.int .i64 z,.int .i64 10] w (.string (Sz z)):=by
 refine(Tryz.strconv_FormatInt_10 z h0 h1 w hl.tb).mono ?_
 rintro e w' ⟨rfl,k,os,rfl⟩
 refine⟨by rw[itoa_sz],Lib.below_grow w.heap.size w (Nat.le_refl _) k os⟩
theorem small_mul {a b:Int}(ha:a.natAbs<1000000000)(hb:b.natAbs<1000000000):(a*b).natAbs<1000000000000000000:=by
 rw[Int.natAbs_mul]
 have h:=Nat.mul_le_mul (Nat.le_of_lt_succ ha) (Nat.le_of_lt_succ hb)
 have h2:(999999999:Nat)*999999999<1000000000000000000:=by decide
 exact Nat.lt_of_le_of_lt h h2
theorem sadd (x1 x2 y1 y2:Int)(hx1:x1.natAbs<1000000000)(hx2:x2.natAbs<1000000000)(hy1:y1.natAbs<1000000000)(hy2:y2.natAbs<1000000000)(w:World) :
 CR 42 #[.agg #[.int .i64 x1,.int .i64 x2],.agg #[.int .i64 y1,.int .i64 y2]] w (.agg #[.int .i64 (x1*y2+y1*x2),.int .i64 (x2*y2)]):=by
 obtain⟨p,hp⟩:∃ p:Int,x1*y2=p:=⟨_,rfl⟩
 have bp:p.natAbs<1000000000000000000:=by rw[← hp];exact small_mul hx1 hy2
 have vp:IntKind.i64.wrap p=p:=IntWalk.i64_in _ (by omega)
 obtain⟨q,hq⟩:∃ p:Int,y1*x2=p:=⟨_,rfl⟩
 have bq:q.natAbs<1000000000000000000:=by rw[← hq];exact small_mul hy1 hx2
 have vq:IntKind.i64.wrap q=q:=IntWalk.i64_in _ (by omega)
 obtain⟨r,hr⟩:∃ p:Int,x2*y2=p:=⟨_,rfl⟩
 have br:r.natAbs<1000000000000000000:=by rw[← hr];exact small_mul hx2 hy2
 have vr:IntKind.i64.wrap r=r:=IntWalk.i64_in _ (by omega)
 have vs:IntKind.i64.wrap (p+q)=p+q:=IntWalk.i64_in _ (by omega)
 rw[hp,hq,hr]
 clear hx1 hx2 hy1 hy2 bp bq br
 go_enter Tryz.func42,Tryz.ntmps42
 go_wp2
 refine bodyPost_ret (v:=.agg #[.int .i64 (p+q),.int .i64 r]) (by simp[results,Tryz.results42,go_sem]) rfl ⟨rfl,?_⟩
 repeat (first|exact Below.refl _ _|refine Below.setCell ?_ (by first|omega|(simp;omega)|simp) _|refine Below.alloc ?_ (by first|omega|(simp;omega)|simp) _|refine Below.drew ?_)
theorem ssub (x1 x2 y1 y2:Int)(hx1:x1.natAbs<1000000000)(hx2:x2.natAbs<1000000000)(hy1:y1.natAbs<1000000000)(hy2:y2.natAbs<1000000000)(w:World) :
 CR 44 #[.agg #[.int .i64 x1,.int .i64 x2],.agg #[.int .i64 y1,.int .i64 y2]] w (.agg #[.int .i64 (x1*y2-y1*x2),.int .i64 (x2*y2)]):=by
 obtain⟨p,hp⟩:∃ p:Int,x1*y2=p:=⟨_,rfl⟩
 have bp:p.natAbs<1000000000000000000:=by rw[← hp];exact small_mul hx1 hy2
 have vp:IntKind.i64.wrap p=p:=IntWalk.i64_in _ (by omega)
 obtain⟨q,hq⟩:∃ p:Int,y1*x2=p:=⟨_,rfl⟩
 have bq:q.natAbs<1000000000000000000:=by rw[← hq];exact small_mul hy1 hx2
 have vq:IntKind.i64.wrap q=q:=IntWalk.i64_in _ (by omega)
 obtain⟨r,hr⟩:∃ p:Int,x2*y2=p:=⟨_,rfl⟩
 have br:r.natAbs<1000000000000000000:=by rw[← hr];exact small_mul hx2 hy2
 have vr:IntKind.i64.wrap r=r:=IntWalk.i64_in _ (by omega)
 have vs:IntKind.i64.wrap (p-q)=p-q:=IntWalk.i64_in _ (by omega)
 rw[hp,hq,hr]
 clear hx1 hx2 hy1 hy2 bp bq br
 go_enter Tryz.func44,Tryz.ntmps44
 go_wp2
 refine bodyPost_ret (v:=.agg #[.int .i64 (p-q),.int .i64 r]) (by simp[results,Tryz.results44,go_sem]) rfl ⟨rfl,?_⟩
 repeat (first|exact Below.refl _ _|refine Below.setCell ?_ (by first|omega|(simp;omega)|simp) _|refine Below.alloc ?_ (by first|omega|(simp;omega)|simp) _|refine Below.drew ?_)
theorem smul (x1 x2 y1 y2:Int)(hx1:x1.natAbs<1000000000)(hx2:x2.natAbs<1000000000)(hy1:y1.natAbs<1000000000)(hy2:y2.natAbs<1000000000)(w:World) :
 CR 46 #[.agg #[.int .i64 x1,.int .i64 x2],.agg #[.int .i64 y1,.int .i64 y2]] w (.agg #[.int .i64 (x1*y1),.int .i64 (x2*y2)]):=by
 obtain⟨p,hp⟩:∃ p:Int,x1*y1=p:=⟨_,rfl⟩
 have bp:p.natAbs<1000000000000000000:=by rw[← hp];exact small_mul hx1 hy1
 have vp:IntKind.i64.wrap p=p:=IntWalk.i64_in _ (by omega)
 obtain⟨r,hr⟩:∃ p:Int,x2*y2=p:=⟨_,rfl⟩
 have br:r.natAbs<1000000000000000000:=by rw[← hr];exact small_mul hx2 hy2
 have vr:IntKind.i64.wrap r=r:=IntWalk.i64_in _ (by omega)
 rw[hp,hr]
 clear hx1 hx2 hy1 hy2 bp br
 go_enter Tryz.func46,Tryz.ntmps46
 go_wp2
 refine bodyPost_ret (v:=.agg #[.int .i64 p,.int .i64 r]) (by simp[results,Tryz.results46,go_sem]) rfl ⟨rfl,?_⟩
 repeat (first|exact Below.refl _ _|refine Below.setCell ?_ (by first|omega|(simp;omega)|simp) _|refine Below.alloc ?_ (by first|omega|(simp;omega)|simp) _|refine Below.drew ?_)
theorem sdiv (x1 x2 y1 y2:Int)(hx1:x1.natAbs<1000000000)(hx2:x2.natAbs<1000000000)(hy1:y1.natAbs<1000000000)(hy2:y2.natAbs<1000000000)(w:World) :
 CR 48 #[.agg #[.int .i64 x1,.int .i64 x2],.agg #[.int .i64 y1,.int .i64 y2]] w (.agg #[.int .i64 (x1*y2),.int .i64 (x2*y1)]):=by
 obtain⟨p,hp⟩:∃ p:Int,x1*y2=p:=⟨_,rfl⟩
 have bp:p.natAbs<1000000000000000000:=by rw[← hp];exact small_mul hx1 hy2
 have vp:IntKind.i64.wrap p=p:=IntWalk.i64_in _ (by omega)
 obtain⟨r,hr⟩:∃ p:Int,x2*y1=p:=⟨_,rfl⟩
 have br:r.natAbs<1000000000000000000:=by rw[← hr];exact small_mul hx2 hy1
 have vr:IntKind.i64.wrap r=r:=IntWalk.i64_in _ (by omega)
 rw[hp,hr]
 clear hx1 hx2 hy1 hy2 bp br
 go_enter Tryz.func48,Tryz.ntmps48
 go_wp2
 refine bodyPost_ret (v:=.agg #[.int .i64 p,.int .i64 r]) (by simp[results,Tryz.results48,go_sem]) rfl ⟨rfl,?_⟩
 repeat (first|exact Below.refl _ _|refine Below.setCell ?_ (by first|omega|(simp;omega)|simp) _|refine Below.alloc ?_ (by first|omega|(simp;omega)|simp) _|refine Below.drew ?_)
theorem scmp (x1 x2 y1 y2 c:Int)(hx1:x1.natAbs<1000000000)(hx2:x2.natAbs<1000000000)(hy1:y1.natAbs<1000000000)(hy2:y2.natAbs<1000000000)(hc:cmpZ (x1*y2) (y1*x2)=c)(w:World) :
 CR 54 #[.agg #[.int .i64 x1,.int .i64 x2],.agg #[.int .i64 y1,.int .i64 y2]] w (.int .i64 c):=by
 obtain⟨p,hp⟩:∃ p:Int,x1*y2=p:=⟨_,rfl⟩
 have bp:p.natAbs<1000000000000000000:=by rw[← hp];exact small_mul hx1 hy2
 have vp:IntKind.i64.wrap p=p:=IntWalk.i64_in _ (by omega)
 obtain⟨q,hq⟩:∃ p:Int,y1*x2=p:=⟨_,rfl⟩
 have bq:q.natAbs<1000000000000000000:=by rw[← hq];exact small_mul hy1 hx2
 have vq:IntKind.i64.wrap q=q:=IntWalk.i64_in _ (by omega)
 rw[hp,hq]at hc
 subst hc
 clear hx1 hx2 hy1 hy2 bp bq
 go_enter Tryz.func54,Tryz.ntmps54
 go_wp2_with fail
 refine(cmp64 _ _ _).mono ?_
 rintro e w' ⟨rfl,rfl⟩
 go_wp2
 go_ret
 refine⟨rfl,?_⟩
 repeat (first|exact Below.refl _ _|refine Below.setCell ?_ (by first|omega|(simp;omega)|simp) _|refine Below.alloc ?_ (by first|omega|(simp;omega)|simp) _|refine Below.drew ?_)
theorem swrite_neg_one (a b g u n:Int)(t1 t2:ByteArray)(hn : -a=n)(hd : -b=g)(hb:b<0)(ba:a.natAbs≤4000000000000000000)(hg:0<g)(bg:g≤4000000000000000000)
 (hu:n.tdiv g=u) (bu:u.natAbs≤4000000000000000000) (w:World) (hl:La w)
 (s1:t1.size≤1000) (s2:t2.size≤1000)
 (h1:CQ 71 #[.int .i64 n,.int .i64 g] (.int .i64 g))
 (h2:CL 72 #[.int .i64 u,.int .i64 10] (.string t1)) :
 CR 51 #[.agg #[.int .i64 a,.int .i64 b]] w (.string t1):=by
 have k1:b<0:=hb
 have x1:IntKind.i64.wrap (-a)=n:=by rw[← hn];exact IntWalk.i64_in _ (by omega)
 have x2:IntKind.i64.wrap (-b)=g:=by rw[← hd];exact IntWalk.i64_in _ (by omega)
 clear hn hd
 have C1:=hid h1
 have C2:=hid h2
 have HL:=hid hl
 have g0:(g==0)=false:=by rw[beq_eq_false_iff_ne];omega
 have wu:IntKind.i64.wrap u=u:=IntWalk.i64_in _ (by omega)
 have z1:(⟨#[47]⟩:ByteArray).size=1:=rfl
 have z2:(t1++⟨#[47]⟩:ByteArray).size=t1.size+1:=by rw[ByteArray.size_append,z1]
 have e1:=fun W:World=>run_string_add_sum (P:=Tryz.prog) W t1 ⟨#[47]⟩ (by rw[z1];omega)
 have e2:=fun W:World=>run_string_add_sum (P:=Tryz.prog) W (t1++⟨#[47]⟩) t2 (by rw[z2];omega)
 have HB0:=hid ((Below.refl w.heap.size w).alloc (Nat.le_refl _) (.cells #[.int .i64 a,.int .i64 b] 67))
 have gg:¬ g=0:=by omega
 clear h1 h2  hl hb ba hg bg bu s1 s2 z1 z2
 go_enter Tryz.func51,Tryz.ntmps51
 go_wp2
 go_region
 go_wp2_with fail
 refine(C1.out _).mono ?_
 rintro e w1 ⟨rfl,hb⟩
 have HB1:=hid (HB0.out.drew.trans (hb.mono HB0.out.drew.size))
 clear hb
 go_wp2_with fail
 refine(C2.out _ (HL.out.on HB1.out)).mono ?_
 rintro e w2 ⟨rfl,hb⟩
 have HB2:=hbt HB1 hb
 clear hb
 go_wp2
 go_ret
 exact⟨rfl,HB2.out⟩
theorem swrite_neg_more (a b g u v n d:Int)(t1 t2:ByteArray)(hn : -a=n)(hd : -b=d)(hb:b<0)(ba:a.natAbs≤4000000000000000000)(bb:b.natAbs≤4000000000000000000)(hg:0<g)(bg:g≤4000000000000000000)
 (hu:n.tdiv g=u) (bu:u.natAbs≤4000000000000000000) (hv:d.tdiv g=v) (bv:v.natAbs≤4000000000000000000) (he:(d==g)=false) (w:World) (hl:La w)
 (s1:t1.size≤1000) (s2:t2.size≤1000)
 (h1:CQ 71 #[.int .i64 n,.int .i64 d] (.int .i64 g))
 (h2:CL 72 #[.int .i64 u,.int .i64 10] (.string t1))
 (h3:CL 72 #[.int .i64 v,.int .i64 10] (.string t2)) :
 CR 51 #[.agg #[.int .i64 a,.int .i64 b]] w (.string (t1++⟨#[47]⟩++t2)):=by
 have k1:b<0:=hb
 have x1:IntKind.i64.wrap (-a)=n:=by rw[← hn];exact IntWalk.i64_in _ (by omega)
 have x2:IntKind.i64.wrap (-b)=d:=by rw[← hd];exact IntWalk.i64_in _ (by omega)
 clear hn hd
 have C1:=hid h1
 have C2:=hid h2
 have C3:=hid h3
 have HL:=hid hl
 have g0:(g==0)=false:=by rw[beq_eq_false_iff_ne];omega
 have wu:IntKind.i64.wrap u=u:=IntWalk.i64_in _ (by omega)
 have wv:IntKind.i64.wrap v=v:=IntWalk.i64_in _ (by omega)
 have z1:(⟨#[47]⟩:ByteArray).size=1:=rfl
 have z2:(t1++⟨#[47]⟩:ByteArray).size=t1.size+1:=by rw[ByteArray.size_append,z1]
 have e1:=fun W:World=>run_string_add_sum (P:=Tryz.prog) W t1 ⟨#[47]⟩ (by rw[z1];omega)
 have e2:=fun W:World=>run_string_add_sum (P:=Tryz.prog) W (t1++⟨#[47]⟩) t2 (by rw[z2];omega)
 have HB0:=hid ((Below.refl w.heap.size w).alloc (Nat.le_refl _) (.cells #[.int .i64 a,.int .i64 b] 67))
 have gg:¬ g=0:=by omega
 clear h1 h2 h3 bv hl hb ba bb hg bg bu s1 s2 z1 z2
 go_enter Tryz.func51,Tryz.ntmps51
 go_wp2
 go_region
 go_wp2_with fail
 refine(C1.out _).mono ?_
 rintro e w1 ⟨rfl,hb⟩
 have HB1:=hid (HB0.out.drew.trans (hb.mono HB0.out.drew.size))
 clear hb
 go_wp2_with fail
 go_region_held3 (fun w'=>Nix w') (first|exact nix _)
  (first
   | (go_at_call 72;(with_reducible refine(C2.out _ ?la1).mono ?_);(case la1=>first|exact HL.out.on HB1.out|exact HL.out.on HB1.out.drew);rintro e w2 ⟨rfl,hb⟩;have HB2:=hid (show Below w.heap.size w w2 by first|exact HB1.out.trans (hb.mono HB1.out.size)|exact HB1.out.drew.trans (hb.mono HB1.out.drew.size));clear hb)
   | (go_at_call 72;(with_reducible refine(C3.out _ ?la2).mono ?_);(case la2=>first|exact HL.out.on HB2.out|exact HL.out.on HB2.out.drew);rintro e w3 ⟨rfl,hb⟩;have HB3:=hid (show Below w.heap.size w w3 by first|exact HB2.out.trans (hb.mono HB2.out.size)|exact HB2.out.drew.trans (hb.mono HB2.out.drew.size));clear hb)
   | fail)
 all_goals
  go_wp2
  go_ret
  exact⟨rfl,by first|exact HB3.out|exact HB3.out.drew⟩
theorem swrite_pos_one (a g u:Int)(t1 t2:ByteArray)(hb:0<g)   (bg:g≤4000000000000000000)
 (hu:a.tdiv g=u) (bu:u.natAbs≤4000000000000000000) (w:World) (hl:La w)
 (s1:t1.size≤1000) (s2:t2.size≤1000)
 (h1:CQ 71 #[.int .i64 a,.int .i64 g] (.int .i64 g))
 (h2:CL 72 #[.int .i64 u,.int .i64 10] (.string t1)) :
 CR 51 #[.agg #[.int .i64 a,.int .i64 g]] w (.string t1):=by
 have k1:decide (g<0)=false:=by rw[decide_eq_false_iff_not];omega
 have C1:=hid h1
 have C2:=hid h2
 have HL:=hid hl
 have g0:(g==0)=false:=by rw[beq_eq_false_iff_ne];omega
 have wu:IntKind.i64.wrap u=u:=IntWalk.i64_in _ (by omega)
 have z1:(⟨#[47]⟩:ByteArray).size=1:=rfl
 have z2:(t1++⟨#[47]⟩:ByteArray).size=t1.size+1:=by rw[ByteArray.size_append,z1]
 have e1:=fun W:World=>run_string_add_sum (P:=Tryz.prog) W t1 ⟨#[47]⟩ (by rw[z1];omega)
 have e2:=fun W:World=>run_string_add_sum (P:=Tryz.prog) W (t1++⟨#[47]⟩) t2 (by rw[z2];omega)
 have HB0:=hid ((Below.refl w.heap.size w).alloc (Nat.le_refl _) (.cells #[.int .i64 a,.int .i64 g] 67))
 have gg:¬ g=0:=by omega
 clear h1 h2  hl hb bg bu s1 s2 z1 z2
 go_enter Tryz.func51,Tryz.ntmps51
 go_wp2
 go_region
 go_wp2_with fail
 refine(C1.out _).mono ?_
 rintro e w1 ⟨rfl,hb⟩
 have HB1:=hid (HB0.out.drew.trans (hb.mono HB0.out.drew.size))
 clear hb
 go_wp2_with fail
 refine(C2.out _ (HL.out.on HB1.out)).mono ?_
 rintro e w2 ⟨rfl,hb⟩
 have HB2:=hbt HB1 hb
 clear hb
 go_wp2
 go_ret
 exact⟨rfl,HB2.out⟩
theorem swrite_pos_more (a b g u v:Int)(t1 t2:ByteArray)(hb:0<b)  (hg:0<g)(bg:g≤4000000000000000000)
 (hu:a.tdiv g=u) (bu:u.natAbs≤4000000000000000000) (hv:b.tdiv g=v) (bv:v.natAbs≤4000000000000000000) (he:(b==g)=false) (w:World) (hl:La w)
 (s1:t1.size≤1000) (s2:t2.size≤1000)
 (h1:CQ 71 #[.int .i64 a,.int .i64 b] (.int .i64 g))
 (h2:CL 72 #[.int .i64 u,.int .i64 10] (.string t1))
 (h3:CL 72 #[.int .i64 v,.int .i64 10] (.string t2)) :
 CR 51 #[.agg #[.int .i64 a,.int .i64 b]] w (.string (t1++⟨#[47]⟩++t2)):=by
 have k1:decide (b<0)=false:=by rw[decide_eq_false_iff_not];omega
 have C1:=hid h1
 have C2:=hid h2
 have C3:=hid h3
 have HL:=hid hl
 have g0:(g==0)=false:=by rw[beq_eq_false_iff_ne];omega
 have wu:IntKind.i64.wrap u=u:=IntWalk.i64_in _ (by omega)
 have wv:IntKind.i64.wrap v=v:=IntWalk.i64_in _ (by omega)
 have z1:(⟨#[47]⟩:ByteArray).size=1:=rfl
 have z2:(t1++⟨#[47]⟩:ByteArray).size=t1.size+1:=by rw[ByteArray.size_append,z1]
 have e1:=fun W:World=>run_string_add_sum (P:=Tryz.prog) W t1 ⟨#[47]⟩ (by rw[z1];omega)
 have e2:=fun W:World=>run_string_add_sum (P:=Tryz.prog) W (t1++⟨#[47]⟩) t2 (by rw[z2];omega)
 have HB0:=hid ((Below.refl w.heap.size w).alloc (Nat.le_refl _) (.cells #[.int .i64 a,.int .i64 b] 67))
 have gg:¬ g=0:=by omega
 clear h1 h2 h3 bv hl hb hg bg bu s1 s2 z1 z2
 go_enter Tryz.func51,Tryz.ntmps51
 go_wp2
 go_region
 go_wp2_with fail
 refine(C1.out _).mono ?_
 rintro e w1 ⟨rfl,hb⟩
 have HB1:=hid (HB0.out.drew.trans (hb.mono HB0.out.drew.size))
 clear hb
 go_wp2_with fail
 go_region_held3 (fun w'=>Nix w') (first|exact nix _)
  (first
   | (go_at_call 72;(with_reducible refine(C2.out _ ?la1).mono ?_);(case la1=>first|exact HL.out.on HB1.out|exact HL.out.on HB1.out.drew);rintro e w2 ⟨rfl,hb⟩;have HB2:=hid (show Below w.heap.size w w2 by first|exact HB1.out.trans (hb.mono HB1.out.size)|exact HB1.out.drew.trans (hb.mono HB1.out.drew.size));clear hb)
   | (go_at_call 72;(with_reducible refine(C3.out _ ?la2).mono ?_);(case la2=>first|exact HL.out.on HB2.out|exact HL.out.on HB2.out.drew);rintro e w3 ⟨rfl,hb⟩;have HB3:=hid (show Below w.heap.size w w3 by first|exact HB2.out.trans (hb.mono HB2.out.size)|exact HB2.out.drew.trans (hb.mono HB2.out.drew.size));clear hb)
   | fail)
 all_goals
  go_wp2
  go_ret
  exact⟨rfl,by first|exact HB3.out|exact HB3.out.drew⟩
end Go.Proofs.YtmmhcaeaddkcmaaGreatDoor
