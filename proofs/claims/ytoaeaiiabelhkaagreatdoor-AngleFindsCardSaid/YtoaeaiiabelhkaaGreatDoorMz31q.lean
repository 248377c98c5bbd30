/- texts -/
import Derived.Test.YtoaeaiiabelhkaaGreatDoorQf
open Go.Proofs.Tryz
set_option maxRecDepth 100000
set_option maxHeartbeats 20000000
open Go.Lib (hid)
namespace Go.Proofs.YtoaeaiiabelhkaaGreatDoor
open Go.RowKit Go.Gb
def Nix (w:World):Prop:=w=w
theorem nix (w:World):Nix w:=rfl
theorem lZ (x:Int)(w:World):Calls Tryz.prog 159 #[.int .i64 x] w fun e w'=>e=.returned (.bool false)∧w=w':=by
 go_enter func159,ntmps159
 go_wp2;go_ret
 exact⟨rfl,rfl⟩
theorem z3E (x y:Int)(h:x<y)(w:World):Calls Tryz.prog 143 #[.int .i64 x,.int .i64 y] w fun e w'=>e=.returned (.int .i64 (-1))∧w=w':=by
 have h1:x<y:=h;clear h;go_enter func143,ntmps143
 go_wp2_with fail
 refine(lZ _ _).mono ?_;rintro e w' ⟨rfl,rfl⟩;go_wp2_with fail
 refine(lZ _ _).mono ?_;rintro e w' ⟨rfl,rfl⟩;go_wp2;go_ret
 exact⟨rfl,rfl⟩
theorem z3G (x:Int)(w:World):Calls Tryz.prog 143 #[.int .i64 x,.int .i64 x] w fun e w'=>e=.returned (.int .i64 0)∧w=w':=by
 go_enter func143,ntmps143
 go_wp2_with fail
 refine(lZ _ _).mono ?_;rintro e w' ⟨rfl,rfl⟩;go_wp2_with fail
 refine(lZ _ _).mono ?_;rintro e w' ⟨rfl,rfl⟩;go_wp2;go_ret
 exact⟨rfl,rfl⟩
theorem z3F (x y:Int)(h:y<x)(w:World):Calls Tryz.prog 143 #[.int .i64 x,.int .i64 y] w fun e w'=>e=.returned (.int .i64 1)∧w=w':=by
 have h1:decide (x<y)=false:=by rw[decide_eq_false_iff_not];omega
 have h2:y<x:=h;clear h;go_enter func143,ntmps143
 go_wp2_with fail
 refine(lZ _ _).mono ?_;rintro e w' ⟨rfl,rfl⟩;go_wp2_with fail
 refine(lZ _ _).mono ?_;rintro e w' ⟨rfl,rfl⟩;go_wp2;go_ret
 exact⟨rfl,rfl⟩
theorem z7q (x y:Int)(w:World):Calls Tryz.prog 143 #[.int .i64 x,.int .i64 y] w fun e w'=>e=.returned (.int .i64 (cmpZ x y))∧w=w':=by
 rcases Int.lt_trichotomy x y with h|h|h
 · rw[oh h];exact z3E x y h w
 · subst h;rw[rX];exact z3G x w
 · rw[om h];exact z3F x y h w
theorem rfmt (z:Int)(h0 : -9223372036854775808≤z)(h1:z≤9223372036854775807)(w:World)(hl:La w) :
 CR 142 #[.int .i64 z,.int .i64 10] w (.string (Sz z)):=by
 refine(Tryz.strconv_FormatInt_10 z h0 h1 w hl.tb).mono ?_;rintro e w' ⟨rfl,k,os,rfl⟩;refine⟨by rw[z1k],Lib.below_grow w.heap.size w (Nat.le_refl _) k os⟩
theorem bS {a b:Int}(ha:a.natAbs<1000000000)(hb:b.natAbs<1000000000):(a*b).natAbs<1000000000000000000:=by
 rw[Int.natAbs_mul];have h:=Nat.mul_le_mul (Nat.le_of_lt_succ ha) (Nat.le_of_lt_succ hb);have h2:(999999999:Nat)*999999999<1000000000000000000:=by decide
 exact Nat.lt_of_le_of_lt h h2
theorem sadd (x1 x2 y1 y2:Int)(hx1:x1.natAbs<1000000000)(hx2:x2.natAbs<1000000000)(hy1:y1.natAbs<1000000000)(hy2:y2.natAbs<1000000000)(w:World) :
 CR 106 #[.agg #[.int .i64 x1,.int .i64 x2],.agg #[.int .i64 y1,.int .i64 y2]] w (.agg #[.int .i64 (x1*y2+y1*x2),.int .i64 (x2*y2)]):=by
 obtain⟨p,hp⟩:∃ p:Int,x1*y2=p:=⟨_,rfl⟩;have bp:p.natAbs<1000000000000000000:=by rw[← hp];exact bS hx1 hy2
 have vp:IntKind.i64.wrap p=p:=IntWalk.i64_in _ (by omega);obtain⟨q,hq⟩:∃ p:Int,y1*x2=p:=⟨_,rfl⟩;have bq:q.natAbs<1000000000000000000:=by rw[← hq];exact bS hy1 hx2
 have vq:IntKind.i64.wrap q=q:=IntWalk.i64_in _ (by omega);obtain⟨r,hr⟩:∃ p:Int,x2*y2=p:=⟨_,rfl⟩;have br:r.natAbs<1000000000000000000:=by rw[← hr];exact bS hx2 hy2
 have vr:IntKind.i64.wrap r=r:=IntWalk.i64_in _ (by omega);have vs:IntKind.i64.wrap (p+q)=p+q:=IntWalk.i64_in _ (by omega);rw[hp,hq,hr];clear hx1 hx2 hy1 hy2 bp bq br;go_enter func106,ntmps106
 go_wp2;refine bodyPost_ret (v:=.agg #[.int .i64 (p+q),.int .i64 r]) (by simp[results,results106,go_sem]) rfl ⟨rfl,?_⟩;repeat (first|exact Below.refl _ _|refine Below.setCell ?_ (by first|omega|(simp;omega)|simp) _|refine Below.alloc ?_ (by first|omega|(simp;omega)|simp) _|refine Below.drew ?_)
theorem ssub (x1 x2 y1 y2:Int)(hx1:x1.natAbs<1000000000)(hx2:x2.natAbs<1000000000)(hy1:y1.natAbs<1000000000)(hy2:y2.natAbs<1000000000)(w:World) :
 CR 108 #[.agg #[.int .i64 x1,.int .i64 x2],.agg #[.int .i64 y1,.int .i64 y2]] w (.agg #[.int .i64 (x1*y2-y1*x2),.int .i64 (x2*y2)]):=by
 obtain⟨p,hp⟩:∃ p:Int,x1*y2=p:=⟨_,rfl⟩;have bp:p.natAbs<1000000000000000000:=by rw[← hp];exact bS hx1 hy2
 have vp:IntKind.i64.wrap p=p:=IntWalk.i64_in _ (by omega);obtain⟨q,hq⟩:∃ p:Int,y1*x2=p:=⟨_,rfl⟩;have bq:q.natAbs<1000000000000000000:=by rw[← hq];exact bS hy1 hx2
 have vq:IntKind.i64.wrap q=q:=IntWalk.i64_in _ (by omega);obtain⟨r,hr⟩:∃ p:Int,x2*y2=p:=⟨_,rfl⟩;have br:r.natAbs<1000000000000000000:=by rw[← hr];exact bS hx2 hy2
 have vr:IntKind.i64.wrap r=r:=IntWalk.i64_in _ (by omega);have vs:IntKind.i64.wrap (p-q)=p-q:=IntWalk.i64_in _ (by omega);rw[hp,hq,hr];clear hx1 hx2 hy1 hy2 bp bq br;go_enter func108,ntmps108
 go_wp2;refine bodyPost_ret (v:=.agg #[.int .i64 (p-q),.int .i64 r]) (by simp[results,results108,go_sem]) rfl ⟨rfl,?_⟩;repeat (first|exact Below.refl _ _|refine Below.setCell ?_ (by first|omega|(simp;omega)|simp) _|refine Below.alloc ?_ (by first|omega|(simp;omega)|simp) _|refine Below.drew ?_)
theorem smul (x1 x2 y1 y2:Int)(hx1:x1.natAbs<1000000000)(hx2:x2.natAbs<1000000000)(hy1:y1.natAbs<1000000000)(hy2:y2.natAbs<1000000000)(w:World) :
 CR 110 #[.agg #[.int .i64 x1,.int .i64 x2],.agg #[.int .i64 y1,.int .i64 y2]] w (.agg #[.int .i64 (x1*y1),.int .i64 (x2*y2)]):=by
 obtain⟨p,hp⟩:∃ p:Int,x1*y1=p:=⟨_,rfl⟩;have bp:p.natAbs<1000000000000000000:=by rw[← hp];exact bS hx1 hy1
 have vp:IntKind.i64.wrap p=p:=IntWalk.i64_in _ (by omega);obtain⟨r,hr⟩:∃ p:Int,x2*y2=p:=⟨_,rfl⟩;have br:r.natAbs<1000000000000000000:=by rw[← hr];exact bS hx2 hy2
 have vr:IntKind.i64.wrap r=r:=IntWalk.i64_in _ (by omega);rw[hp,hr];clear hx1 hx2 hy1 hy2 bp br;go_enter func110,ntmps110
 go_wp2;refine bodyPost_ret (v:=.agg #[.int .i64 p,.int .i64 r]) (by simp[results,results110,go_sem]) rfl ⟨rfl,?_⟩;repeat (first|exact Below.refl _ _|refine Below.setCell ?_ (by first|omega|(simp;omega)|simp) _|refine Below.alloc ?_ (by first|omega|(simp;omega)|simp) _|refine Below.drew ?_)
theorem sdiv (x1 x2 y1 y2:Int)(hx1:x1.natAbs<1000000000)(hx2:x2.natAbs<1000000000)(hy1:y1.natAbs<1000000000)(hy2:y2.natAbs<1000000000)(w:World) :
 CR 112 #[.agg #[.int .i64 x1,.int .i64 x2],.agg #[.int .i64 y1,.int .i64 y2]] w (.agg #[.int .i64 (x1*y2),.int .i64 (x2*y1)]):=by
 obtain⟨p,hp⟩:∃ p:Int,x1*y2=p:=⟨_,rfl⟩;have bp:p.natAbs<1000000000000000000:=by rw[← hp];exact bS hx1 hy2
 have vp:IntKind.i64.wrap p=p:=IntWalk.i64_in _ (by omega);obtain⟨r,hr⟩:∃ p:Int,x2*y1=p:=⟨_,rfl⟩;have br:r.natAbs<1000000000000000000:=by rw[← hr];exact bS hx2 hy1
 have vr:IntKind.i64.wrap r=r:=IntWalk.i64_in _ (by omega);rw[hp,hr];clear hx1 hx2 hy1 hy2 bp br;go_enter func112,ntmps112
 go_wp2;refine bodyPost_ret (v:=.agg #[.int .i64 p,.int .i64 r]) (by simp[results,results112,go_sem]) rfl ⟨rfl,?_⟩;repeat (first|exact Below.refl _ _|refine Below.setCell ?_ (by first|omega|(simp;omega)|simp) _|refine Below.alloc ?_ (by first|omega|(simp;omega)|simp) _|refine Below.drew ?_)
theorem scmp (x1 x2 y1 y2 c:Int)(hx1:x1.natAbs<1000000000)(hx2:x2.natAbs<1000000000)(hy1:y1.natAbs<1000000000)(hy2:y2.natAbs<1000000000)(hc:cmpZ (x1*y2) (y1*x2)=c)(w:World) :
 CR 117 #[.agg #[.int .i64 x1,.int .i64 x2],.agg #[.int .i64 y1,.int .i64 y2]] w (.int .i64 c):=by
 obtain⟨p,hp⟩:∃ p:Int,x1*y2=p:=⟨_,rfl⟩;have bp:p.natAbs<1000000000000000000:=by rw[← hp];exact bS hx1 hy2
 have vp:IntKind.i64.wrap p=p:=IntWalk.i64_in _ (by omega);obtain⟨q,hq⟩:∃ p:Int,y1*x2=p:=⟨_,rfl⟩;have bq:q.natAbs<1000000000000000000:=by rw[← hq];exact bS hy1 hx2
 have vq:IntKind.i64.wrap q=q:=IntWalk.i64_in _ (by omega);rw[hp,hq]at hc;subst hc;clear hx1 hx2 hy1 hy2 bp bq;go_enter func117,ntmps117
 go_wp2_with fail
 refine(z7q _ _ _).mono ?_;rintro e w' ⟨rfl,rfl⟩;go_wp2;go_ret
 refine⟨rfl,?_⟩;repeat (first|exact Below.refl _ _|refine Below.setCell ?_ (by first|omega|(simp;omega)|simp) _|refine Below.alloc ?_ (by first|omega|(simp;omega)|simp) _|refine Below.drew ?_)
theorem oO (a b g u n:Int)(t1 t2:ByteArray)(hn : -a=n)(hd : -b=g)(hb:b<0)(ba:a.natAbs≤4000000000000000000)(hg:0<g)(bg:g≤4000000000000000000)
 (hu:n.tdiv g=u) (bu:u.natAbs≤4000000000000000000) (w:World) (hl:La w)
 (s1:t1.size≤1000) (s2:t2.size≤1000)
 (h1:CQ 124 #[.int .i64 n,.int .i64 g] (.int .i64 g))
 (h2:CL 142 #[.int .i64 u,.int .i64 10] (.string t1)) :
 CR 115 #[.agg #[.int .i64 a,.int .i64 b]] w (.string t1):=by
 have k1:b<0:=hb;have x1:IntKind.i64.wrap (-a)=n:=by rw[← hn];exact IntWalk.i64_in _ (by omega)
 have x2:IntKind.i64.wrap (-b)=g:=by rw[← hd];exact IntWalk.i64_in _ (by omega)
 clear hn hd;obtain ⟨C1,C2,HL⟩:=ak h1 h2 hl;have g0:(g==0)=false:=by rw[beq_eq_false_iff_ne];omega
 have wu:IntKind.i64.wrap u=u:=IntWalk.i64_in _ (by omega);have z1:(⟨#[47]⟩:ByteArray).size=1:=rfl;have z2:(t1++⟨#[47]⟩:ByteArray).size=t1.size+1:=by rw[ByteArray.size_append,z1]
 have e1:=fun W:World=>run_string_add_sum (P:=Tryz.prog) W t1 ⟨#[47]⟩ (by rw[z1];omega);have e2:=fun W:World=>run_string_add_sum (P:=Tryz.prog) W (t1++⟨#[47]⟩) t2 (by rw[z2];omega);have wm:=hid ((Below.refl w.heap.size w).alloc (Nat.le_refl _) (.cells #[.int .i64 a,.int .i64 b] 129));have gg:¬ g=0:=by omega
 clear h1 h2  hl hb ba hg bg bu s1 s2 z1 z2;go_enter func115,ntmps115
 go_wp2;go_region
 go_wp2_with fail
 refine(C1.o _).mono ?_;rintro e w1 ⟨rfl,hb⟩;have u6:=hid (wm.o.drew.trans (hb.mono wm.o.drew.size));clear hb;go_wp2_with fail
 refine(C2.o _ (HL.o.on u6.o)).mono ?_;rintro e w2 ⟨rfl,hb⟩;have uu:=hbt u6 hb;clear hb;go_wp2;go_ret
 exact⟨rfl,uu.o⟩
theorem nJ (a b g u v n d:Int)(t1 t2:ByteArray)(hn : -a=n)(hd : -b=d)(hb:b<0)(ba:a.natAbs≤4000000000000000000)(bb:b.natAbs≤4000000000000000000)(hg:0<g)(bg:g≤4000000000000000000)
 (hu:n.tdiv g=u) (bu:u.natAbs≤4000000000000000000) (hv:d.tdiv g=v) (bv:v.natAbs≤4000000000000000000) (he:(d==g)=false) (w:World) (hl:La w)
 (s1:t1.size≤1000) (s2:t2.size≤1000)
 (h1:CQ 124 #[.int .i64 n,.int .i64 d] (.int .i64 g))
 (h2:CL 142 #[.int .i64 u,.int .i64 10] (.string t1))
 (h3:CL 142 #[.int .i64 v,.int .i64 10] (.string t2)) :
 CR 115 #[.agg #[.int .i64 a,.int .i64 b]] w (.string (t1++⟨#[47]⟩++t2)):=by
 have k1:b<0:=hb;have x1:IntKind.i64.wrap (-a)=n:=by rw[← hn];exact IntWalk.i64_in _ (by omega)
 have x2:IntKind.i64.wrap (-b)=d:=by rw[← hd];exact IntWalk.i64_in _ (by omega)
 clear hn hd;obtain ⟨C1,C2,C3,HL⟩:=aN h1 h2 h3 hl;have g0:(g==0)=false:=by rw[beq_eq_false_iff_ne];omega
 have wu:IntKind.i64.wrap u=u:=IntWalk.i64_in _ (by omega);have wv:IntKind.i64.wrap v=v:=IntWalk.i64_in _ (by omega);have z1:(⟨#[47]⟩:ByteArray).size=1:=rfl;have z2:(t1++⟨#[47]⟩:ByteArray).size=t1.size+1:=by rw[ByteArray.size_append,z1]
 have e1:=fun W:World=>run_string_add_sum (P:=Tryz.prog) W t1 ⟨#[47]⟩ (by rw[z1];omega);have e2:=fun W:World=>run_string_add_sum (P:=Tryz.prog) W (t1++⟨#[47]⟩) t2 (by rw[z2];omega);have wm:=hid ((Below.refl w.heap.size w).alloc (Nat.le_refl _) (.cells #[.int .i64 a,.int .i64 b] 129));have gg:¬ g=0:=by omega
 clear h1 h2 h3 bv hl hb ba bb hg bg bu s1 s2 z1 z2;go_enter func115,ntmps115
 go_wp2;go_region
 go_wp2_with fail
 refine(C1.o _).mono ?_;rintro e w1 ⟨rfl,hb⟩;have u6:=hid (wm.o.drew.trans (hb.mono wm.o.drew.size));clear hb;go_wp2_with fail
 go_region_held3 (fun w'=>Nix w') (first|exact nix _)
  (first
   | (go_at_call 142;(with_reducible refine(C2.o _ ?la1).mono ?_);(case la1=>first|exact HL.o.on u6.o|exact HL.o.on u6.o.drew);rintro e w2 ⟨rfl,hb⟩;have uu:=hid (show Below w.heap.size w w2 by first|exact u6.o.trans (hb.mono u6.o.size)|exact u6.o.drew.trans (hb.mono u6.o.drew.size));clear hb)
   | (go_at_call 142;(with_reducible refine(C3.o _ ?la2).mono ?_);(case la2=>first|exact HL.o.on uu.o|exact HL.o.on uu.o.drew);rintro e w3 ⟨rfl,hb⟩;have wo:=hid (show Below w.heap.size w w3 by first|exact uu.o.trans (hb.mono uu.o.size)|exact uu.o.drew.trans (hb.mono uu.o.drew.size));clear hb)
   | fail)
 all_goals
  go_wp2;go_ret
  exact⟨rfl,by first|exact wo.o|exact wo.o.drew⟩
theorem oN (a g u:Int)(t1 t2:ByteArray)(hb:0<g)   (bg:g≤4000000000000000000)
 (hu:a.tdiv g=u) (bu:u.natAbs≤4000000000000000000) (w:World) (hl:La w)
 (s1:t1.size≤1000) (s2:t2.size≤1000)
 (h1:CQ 124 #[.int .i64 a,.int .i64 g] (.int .i64 g))
 (h2:CL 142 #[.int .i64 u,.int .i64 10] (.string t1)) :
 CR 115 #[.agg #[.int .i64 a,.int .i64 g]] w (.string t1):=by
 have k1:decide (g<0)=false:=by rw[decide_eq_false_iff_not];omega
 obtain ⟨C1,C2,HL⟩:=ak h1 h2 hl;have g0:(g==0)=false:=by rw[beq_eq_false_iff_ne];omega
 have wu:IntKind.i64.wrap u=u:=IntWalk.i64_in _ (by omega);have z1:(⟨#[47]⟩:ByteArray).size=1:=rfl;have z2:(t1++⟨#[47]⟩:ByteArray).size=t1.size+1:=by rw[ByteArray.size_append,z1]
 have e1:=fun W:World=>run_string_add_sum (P:=Tryz.prog) W t1 ⟨#[47]⟩ (by rw[z1];omega);have e2:=fun W:World=>run_string_add_sum (P:=Tryz.prog) W (t1++⟨#[47]⟩) t2 (by rw[z2];omega);have wm:=hid ((Below.refl w.heap.size w).alloc (Nat.le_refl _) (.cells #[.int .i64 a,.int .i64 g] 129));have gg:¬ g=0:=by omega
 clear h1 h2  hl hb bg bu s1 s2 z1 z2;go_enter func115,ntmps115
 go_wp2;go_region
 go_wp2_with fail
 refine(C1.o _).mono ?_;rintro e w1 ⟨rfl,hb⟩;have u6:=hid (wm.o.drew.trans (hb.mono wm.o.drew.size));clear hb;go_wp2_with fail
 refine(C2.o _ (HL.o.on u6.o)).mono ?_;rintro e w2 ⟨rfl,hb⟩;have uu:=hbt u6 hb;clear hb;go_wp2;go_ret
 exact⟨rfl,uu.o⟩
theorem nI (a b g u v:Int)(t1 t2:ByteArray)(hb:0<b)  (hg:0<g)(bg:g≤4000000000000000000)
 (hu:a.tdiv g=u) (bu:u.natAbs≤4000000000000000000) (hv:b.tdiv g=v) (bv:v.natAbs≤4000000000000000000) (he:(b==g)=false) (w:World) (hl:La w)
 (s1:t1.size≤1000) (s2:t2.size≤1000)
 (h1:CQ 124 #[.int .i64 a,.int .i64 b] (.int .i64 g))
 (h2:CL 142 #[.int .i64 u,.int .i64 10] (.string t1))
 (h3:CL 142 #[.int .i64 v,.int .i64 10] (.string t2)) :
 CR 115 #[.agg #[.int .i64 a,.int .i64 b]] w (.string (t1++⟨#[47]⟩++t2)):=by
 have k1:decide (b<0)=false:=by rw[decide_eq_false_iff_not];omega
 obtain ⟨C1,C2,C3,HL⟩:=aN h1 h2 h3 hl;have g0:(g==0)=false:=by rw[beq_eq_false_iff_ne];omega
 have wu:IntKind.i64.wrap u=u:=IntWalk.i64_in _ (by omega);have wv:IntKind.i64.wrap v=v:=IntWalk.i64_in _ (by omega);have z1:(⟨#[47]⟩:ByteArray).size=1:=rfl;have z2:(t1++⟨#[47]⟩:ByteArray).size=t1.size+1:=by rw[ByteArray.size_append,z1]
 have e1:=fun W:World=>run_string_add_sum (P:=Tryz.prog) W t1 ⟨#[47]⟩ (by rw[z1];omega);have e2:=fun W:World=>run_string_add_sum (P:=Tryz.prog) W (t1++⟨#[47]⟩) t2 (by rw[z2];omega);have wm:=hid ((Below.refl w.heap.size w).alloc (Nat.le_refl _) (.cells #[.int .i64 a,.int .i64 b] 129));have gg:¬ g=0:=by omega
 clear h1 h2 h3 bv hl hb hg bg bu s1 s2 z1 z2;go_enter func115,ntmps115
 go_wp2;go_region
 go_wp2_with fail
 refine(C1.o _).mono ?_;rintro e w1 ⟨rfl,hb⟩;have u6:=hid (wm.o.drew.trans (hb.mono wm.o.drew.size));clear hb;go_wp2_with fail
 go_region_held3 (fun w'=>Nix w') (first|exact nix _)
  (first
   | (go_at_call 142;(with_reducible refine(C2.o _ ?la1).mono ?_);(case la1=>first|exact HL.o.on u6.o|exact HL.o.on u6.o.drew);rintro e w2 ⟨rfl,hb⟩;have uu:=hid (show Below w.heap.size w w2 by first|exact u6.o.trans (hb.mono u6.o.size)|exact u6.o.drew.trans (hb.mono u6.o.drew.size));clear hb)
   | (go_at_call 142;(with_reducible refine(C3.o _ ?la2).mono ?_);(case la2=>first|exact HL.o.on uu.o|exact HL.o.on uu.o.drew);rintro e w3 ⟨rfl,hb⟩;have wo:=hid (show Below w.heap.size w w3 by first|exact uu.o.trans (hb.mono uu.o.size)|exact uu.o.drew.trans (hb.mono uu.o.drew.size));clear hb)
   | fail)
 all_goals
  go_wp2;go_ret
  exact⟨rfl,by first|exact wo.o|exact wo.o.drew⟩
open Go.Lib (hid)
theorem z5i (a b:Int):(if b>a then b else a)=max a b:=by rw[Int.max_def];split<;>split<;>omega
theorem xP {P:Program}(w:World)(ts:Array TypeId)(t:TypeId)(k:IntKind)(a b c d:Int) :
 (Builtin.max_ ts t #[.int k a,.int k b,.int k c,.int k d]).run P w=.ok (.int k (max (max (max a b) c) d)) w:=by
 simp[Builtin.max_,Builtin.max2,← z5i]
theorem tC (x1 x2 y1 y2:ByteArray)(h:9<x1.size∨9<x2.size∨9<y1.size∨9<y2.size)(w:World) :
 CR 114 #[.agg #[.string x1,.string x2],.agg #[.string y1,.string y2]] w (.tuple #[.agg #[.int .i64 0,.int .i64 0],.agg #[.int .i64 0,.int .i64 0],.bool false]):=by
 have hm := @xP Tryz.prog;have k1:9<max (max (max (x1.size:Int) (x2.size:Int)) (y1.size:Int)) (y2.size:Int):=by omega
 clear h;go_enter func114,ntmps114
 go_wp2;refine bodyPost_ret (v:=.tuple #[.agg #[.int .i64 0,.int .i64 0],.agg #[.int .i64 0,.int .i64 0],.bool false]) (by simp[results,results114,go_sem]) rfl ⟨rfl,?_⟩;repeat (first|exact Below.refl _ _|refine Below.setCell ?_ (by first|omega|(simp;omega)|simp) _|refine Below.alloc ?_ (by first|omega|(simp;omega)|simp) _|refine Below.drew ?_)
theorem qN (x1 x2 y1 y2:ByteArray)(a b c d:Int)(h:x1.size≤9∧x2.size≤9∧y1.size≤9∧y2.size≤9)(w:World)
 (h1:CQ 125 #[.string x1] (.int .i64 a))
 (h2:CQ 125 #[.string x2] (.int .i64 b))
 (h3:CQ 125 #[.string y1] (.int .i64 c))
 (h4:CQ 125 #[.string y2] (.int .i64 d)) :
 CR 114 #[.agg #[.string x1,.string x2],.agg #[.string y1,.string y2]] w (.tuple #[.agg #[.int .i64 a,.int .i64 b],.agg #[.int .i64 c,.int .i64 d],.bool true]):=by
 have hm := @xP Tryz.prog;have k1:decide (9<max (x1.size:Int) (max (x2.size:Int) (max (y1.size:Int) (y2.size:Int))))=false:=by rw[decide_eq_false_iff_not];omega
 clear h;obtain ⟨C1,C2,C3,C4⟩:=aN h1 h2 h3 h4;obtain⟨w0,hw0⟩:∃ w0:World,w0=((((w.alloc (.cells #[.string x1,.string x2] 67)).alloc (.cells #[.string y1,.string y2] 67)).alloc (.cells #[.int .i64 0,.int .i64 0] 129)).alloc (.cells #[.int .i64 0,.int .i64 0] 129)):=⟨_,rfl⟩;have hz0:w0.heap.size=w.heap.size+4:=by rw[hw0];simp
 have hB0:Below w.heap.size w w0:=by
  rw[hw0];repeat (first|exact Below.refl _ _|refine Below.setCell ?_ (by first|omega|(simp;omega)|simp) _|refine Below.alloc ?_ (by first|omega|(simp;omega)|simp) _|refine Below.drew ?_)
 have hS0:w0.cell? ⟨w.heap.size,0,none⟩=some (.string x1)∧w0.cell? ⟨w.heap.size,1,none⟩=some (.string x2)∧w0.cell? ⟨w.heap.size+1,0,none⟩=some (.string y1)∧w0.cell? ⟨w.heap.size+1,1,none⟩=some (.string y2):=by rw[hw0];exact⟨((q_lt).trans ((q_lt).trans ((q_lt).trans ((aM).trans rfl)))),((q_lt).trans ((q_lt).trans ((q_lt).trans ((aM).trans rfl)))),((q_lt).trans ((q_lt).trans ((aM).trans rfl))),((q_lt).trans ((q_lt).trans ((aM).trans rfl)))⟩
 have KS:=hid (show ∀ W:World,Below w0.heap.size w0 W→(W.cell? ⟨w.heap.size,0,none⟩=some (.string x1)∧W.cell? ⟨w.heap.size,1,none⟩=some (.string x2)∧W.cell? ⟨w.heap.size+1,0,none⟩=some (.string y1)∧W.cell? ⟨w.heap.size+1,1,none⟩=some (.string y2)) from fun W hB=>by
  obtain⟨c0,c1,c2,c3⟩:=hS0
  exact⟨hB.kc c0 (by omega),hB.kc c1 (by omega),hB.kc c2 (by omega),hB.kc c3 (by omega)⟩)
 have KZ:=Below.kz (show w.heap.size+4≤w0.heap.size by omega);have KB:=hB0.kb (by omega);have hR0:w0.cell? ⟨w.heap.size+1+1,0,none⟩=some (.int .i64 0)∧w0.cell? ⟨w.heap.size+1+1,1,none⟩=some (.int .i64 0)∧w0.cell? ⟨w.heap.size+1+1+1,0,none⟩=some (.int .i64 0)∧w0.cell? ⟨w.heap.size+1+1+1,1,none⟩=some (.int .i64 0)∧w0.frozen? ⟨w.heap.size+1+1,0,none⟩=false∧w0.frozen? ⟨w.heap.size+1+1,1,none⟩=false∧w0.frozen? ⟨w.heap.size+1+1+1,0,none⟩=false∧w0.frozen? ⟨w.heap.size+1+1+1,1,none⟩=false:=by rw[hw0];exact⟨((q_lt).trans ((aM).trans rfl)),((q_lt).trans ((aM).trans rfl)),((aM).trans rfl),((aM).trans rfl),((jV).trans (bG)),((jV).trans (bG)),(bG),(bG)⟩
 have KR:=hid (show ∀ W:World,Below w0.heap.size w0 W→(W.cell? ⟨w.heap.size+1+1,0,none⟩=some (.int .i64 0)∧W.cell? ⟨w.heap.size+1+1,1,none⟩=some (.int .i64 0)∧W.cell? ⟨w.heap.size+1+1+1,0,none⟩=some (.int .i64 0)∧W.cell? ⟨w.heap.size+1+1+1,1,none⟩=some (.int .i64 0)∧W.frozen? ⟨w.heap.size+1+1,0,none⟩=false∧W.frozen? ⟨w.heap.size+1+1,1,none⟩=false∧W.frozen? ⟨w.heap.size+1+1+1,0,none⟩=false∧W.frozen? ⟨w.heap.size+1+1+1,1,none⟩=false) from fun W hB=>by
  obtain⟨c0,c1,c2,c3,f0,f1,f2,f3⟩:=hR0
  exact⟨hB.kc c0 (by omega),hB.kc c1 (by omega),hB.kc c2 (by omega),hB.kc c3 (by omega),hB.kf f0 (by omega),hB.kf f1 (by omega),hB.kf f2 (by omega),hB.kf f3 (by omega)⟩)
 clear hR0
 have KT0:=hid (show ∀ (W:World) (v u:Value),Below w0.heap.size w0 W→(((W.setCell ⟨w.heap.size+1+1,0,none⟩ v).setCell ⟨w.heap.size+1+1,1,none⟩ u).cell? ⟨w.heap.size,0,none⟩=some (.string x1)∧((W.setCell ⟨w.heap.size+1+1,0,none⟩ v).setCell ⟨w.heap.size+1+1,1,none⟩ u).cell? ⟨w.heap.size,1,none⟩=some (.string x2)∧((W.setCell ⟨w.heap.size+1+1,0,none⟩ v).setCell ⟨w.heap.size+1+1,1,none⟩ u).cell? ⟨w.heap.size+1,0,none⟩=some (.string y1)∧((W.setCell ⟨w.heap.size+1+1,0,none⟩ v).setCell ⟨w.heap.size+1+1,1,none⟩ u).cell? ⟨w.heap.size+1,1,none⟩=some (.string y2)) from fun W v u hB=>by
  have hh:=KS.o W hB;obtain⟨c0,c1,c2,c3⟩:=hh
  exact⟨(aY (by omega)).trans ((aY (by omega)).trans c0),(aY (by omega)).trans ((aY (by omega)).trans c1),(aY (by omega)).trans ((aY (by omega)).trans c2),(aY (by omega)).trans ((aY (by omega)).trans c3)⟩)
 have KT1:=hid (show ∀ (W:World) (v u:Value),Below w0.heap.size w0 W→(((W.setCell ⟨w.heap.size+1+1+1,0,none⟩ v).setCell ⟨w.heap.size+1+1+1,1,none⟩ u).cell? ⟨w.heap.size,0,none⟩=some (.string x1)∧((W.setCell ⟨w.heap.size+1+1+1,0,none⟩ v).setCell ⟨w.heap.size+1+1+1,1,none⟩ u).cell? ⟨w.heap.size,1,none⟩=some (.string x2)∧((W.setCell ⟨w.heap.size+1+1+1,0,none⟩ v).setCell ⟨w.heap.size+1+1+1,1,none⟩ u).cell? ⟨w.heap.size+1,0,none⟩=some (.string y1)∧((W.setCell ⟨w.heap.size+1+1+1,0,none⟩ v).setCell ⟨w.heap.size+1+1+1,1,none⟩ u).cell? ⟨w.heap.size+1,1,none⟩=some (.string y2)) from fun W v u hB=>by
  have hh:=KS.o W hB;obtain⟨c0,c1,c2,c3⟩:=hh
  exact⟨(aY (by omega)).trans ((aY (by omega)).trans c0),(aY (by omega)).trans ((aY (by omega)).trans c1),(aY (by omega)).trans ((aY (by omega)).trans c2),(aY (by omega)).trans ((aY (by omega)).trans c3)⟩)
 have KT2:=hid (show ∀ (W:World) (v u v2 u2:Value),Below w0.heap.size w0 W→(((((W.setCell ⟨w.heap.size+1+1,0,none⟩ v).setCell ⟨w.heap.size+1+1,1,none⟩ u).setCell ⟨w.heap.size+1+1+1,0,none⟩ v2).setCell ⟨w.heap.size+1+1+1,1,none⟩ u2).cell? ⟨w.heap.size,0,none⟩=some (.string x1)∧((((W.setCell ⟨w.heap.size+1+1,0,none⟩ v).setCell ⟨w.heap.size+1+1,1,none⟩ u).setCell ⟨w.heap.size+1+1+1,0,none⟩ v2).setCell ⟨w.heap.size+1+1+1,1,none⟩ u2).cell? ⟨w.heap.size,1,none⟩=some (.string x2)∧((((W.setCell ⟨w.heap.size+1+1,0,none⟩ v).setCell ⟨w.heap.size+1+1,1,none⟩ u).setCell ⟨w.heap.size+1+1+1,0,none⟩ v2).setCell ⟨w.heap.size+1+1+1,1,none⟩ u2).cell? ⟨w.heap.size+1,0,none⟩=some (.string y1)∧((((W.setCell ⟨w.heap.size+1+1,0,none⟩ v).setCell ⟨w.heap.size+1+1,1,none⟩ u).setCell ⟨w.heap.size+1+1+1,0,none⟩ v2).setCell ⟨w.heap.size+1+1+1,1,none⟩ u2).cell? ⟨w.heap.size+1,1,none⟩=some (.string y2)) from fun W v u v2 u2 hB=>by
  have hh:=KS.o W hB;obtain⟨c0,c1,c2,c3⟩:=hh
  exact⟨(aY (by omega)).trans ((aY (by omega)).trans ((aY (by omega)).trans ((aY (by omega)).trans c0))),(aY (by omega)).trans ((aY (by omega)).trans ((aY (by omega)).trans ((aY (by omega)).trans c1))),(aY (by omega)).trans ((aY (by omega)).trans ((aY (by omega)).trans ((aY (by omega)).trans c2))),(aY (by omega)).trans ((aY (by omega)).trans ((aY (by omega)).trans ((aY (by omega)).trans c3)))⟩)
 have F0:=hid (Below.refl w0.heap.size w0);have HW0:=hid hw0;clear hz0 hB0 hS0 hw0 h1 h2 h3 h4;go_enter func114,ntmps114
 go_wp2_with fail
 rw[← HW0.o];obtain⟨d0,d1,d2,d3⟩:=KS.o _ F0.o;go_wp2_with fail
 go_region_held3 (fun w'=>w'.cell? ⟨w.heap.size,0,none⟩=some (.string x1)∧w'.cell? ⟨w.heap.size,1,none⟩=some (.string x2)∧w'.cell? ⟨w.heap.size+1,0,none⟩=some (.string y1)∧w'.cell? ⟨w.heap.size+1,1,none⟩=some (.string y2)) (first|(with_reducible exact KS.o _ F4.o)|(with_reducible exact KS.o _ F4.o.drew)|(with_reducible exact KS.o _ F3.o)|(with_reducible exact KS.o _ F3.o.drew)|(with_reducible exact KS.o _ F2.o)|(with_reducible exact KS.o _ F2.o.drew)|(with_reducible exact KS.o _ F1.o)|(with_reducible exact KS.o _ F1.o.drew)|(with_reducible exact KS.o _ F0.o)|(with_reducible exact KS.o _ F0.o.drew)|(with_reducible exact KT2.o _ _ _ _ _ F4.o)|(with_reducible exact KT2.o _ _ _ _ _ F4.o.drew)|(with_reducible exact KT0.o _ _ _ F4.o)|(with_reducible exact KT0.o _ _ _ F4.o.drew)|(with_reducible exact KT1.o _ _ _ F4.o)|(with_reducible exact KT1.o _ _ _ F4.o.drew))
  (first
   | (go_at_call 125;(with_reducible refine(C1.o _).mono ?_);rintro e w1 ⟨rfl,hb⟩;have F1:=hid (show Below w0.heap.size w0 w1 by first|exact au F0.o hb|exact au F0.o.drew hb);clear hb)
   | (go_at_call 125;(with_reducible refine(C2.o _).mono ?_);rintro e w2 ⟨rfl,hb⟩;have F2:=hid (show Below w0.heap.size w0 w2 by first|exact au F1.o hb|exact au F1.o.drew hb);clear hb)
   | (go_at_call 125;(with_reducible refine(C3.o _).mono ?_);rintro e w3 ⟨rfl,hb⟩;have F3:=hid (show Below w0.heap.size w0 w3 by first|exact au F2.o hb|exact au F2.o.drew hb);clear hb)
   | (go_at_call 125;(with_reducible refine(C4.o _).mono ?_);rintro e w4 ⟨rfl,hb⟩;have F4:=hid (show Below w0.heap.size w0 w4 by first|exact au F3.o hb|exact au F3.o.drew hb);clear hb;have hz:=KZ.o _ F4.o;obtain⟨m0,m1,m2,m3,n0,n1,n2,n3⟩:=KR.o _ F4.o)
   | fail)
 all_goals
  have hz:=KZ.o _ F4.o;go_wp2;refine bodyPost_ret (v:=.tuple #[.agg #[.int .i64 a,.int .i64 b],.agg #[.int .i64 c,.int .i64 d],.bool true]) (by simp[results,results114,go_sem,m0,m1,m2,m3]) rfl ⟨rfl,?_⟩;repeat (first|exact KB.o _ F4.o|refine Below.setCell ?_ (by first|omega|(simp;omega)|simp) _|refine Below.alloc ?_ (by first|omega|(simp;omega)|simp) _|refine Below.drew ?_)
end Go.Proofs.YtoaeaiiabelhkaaGreatDoor
open Go.Lib (hid)
namespace Go.Proofs.YtoaeaiiabelhkaaGreatDoor
open Go.RowKit Go.Gb
theorem dH {w0 a:World}(h:Below w0.heap.size w0 a)(o:Obj):Below w0.heap.size w0 (a.alloc o):=h.alloc h.size o
theorem yx (w:World)(o:Obj):(w.alloc o).heap[w.heap.size]? = some o:=heap_alloc_new w o
theorem mG {b c:Nat}{es:Array MapEntry}{u v w:World}(h:PutAt b es c v w)(hu:Below b u v):Below b u w:=hu.trans h.below
theorem dZ (a b x1 x2 y1 y2 d:ByteArray)(p q r s t u:Int)(ch:Int)(fs fa:Nat)(o:Nat)(hsel:(ch=43∧fs=106∧fa=107)∨(ch=45∧fs=108∧fa=109)∨(ch=42∧fs=110∧fa=111)∨(ch=47∧fs=112∧fa=113))(hk:MapKept.IsKey (.int .u8) (.int .u8 ch))(hf:Instr.findNow (.int .u8) (.int .u8 ch) (#[⟨.int .u8 43,.agg #[.func (.func 106) #[] #[],.func (.func 107) #[] #[]],0⟩,⟨.int .u8 45,.agg #[.func (.func 108) #[] #[],.func (.func 109) #[] #[]],1⟩,⟨.int .u8 42,.agg #[.func (.func 110) #[] #[],.func (.func 111) #[] #[]],2⟩,⟨.int .u8 47,.agg #[.func (.func 112) #[] #[],.func (.func 113) #[] #[]],3⟩]:Array MapEntry).toList 0=some (some (o,.agg #[.func (.func fs) #[] #[],.func (.func fa) #[] #[]])))(w:World)(hl:La w)
 (h1:CL 74 #[.string a,.string b] (.tuple #[.agg #[.string x1,.string x2],.agg #[.string y1,.string y2],.bool true]))
 (h2:CQ 114 #[.agg #[.string x1,.string x2],.agg #[.string y1,.string y2]] (.tuple #[.agg #[.int .i64 p,.int .i64 q],.agg #[.int .i64 r,.int .i64 s],.bool true]))
 (h3:CQ fs #[.agg #[.int .i64 p,.int .i64 q],.agg #[.int .i64 r,.int .i64 s]] (.agg #[.int .i64 t,.int .i64 u]))
 (h4:CL 115 #[.agg #[.int .i64 t,.int .i64 u]] (.string d)) :
 CR 72 #[.string a,.int .u8 ch,.string b] w (.tuple #[.string d,.int .i64 0]):=by
 have HSEL:=hid hsel;clear hsel;obtain ⟨C1,C2,C3,C4,HL⟩:=bz (h1 w hl) h2 h3 h4 hl;clear h1 h2 h3 h4 hl;go_enter func72,ntmps72
 go_wp2_with fail
 refine C1.o.mono ?_;rintro e w1 ⟨rfl,hb⟩;have F1:=hid hb;obtain⟨w2,hw2⟩:∃ W:World,W=(w1.alloc (.cells #[.string x1,.string x2] 67)).alloc (.cells #[.string y1,.string y2] 67):=⟨_,rfl⟩;have HW2:=hid hw2;have z2:w2.heap.size=w1.heap.size+1+1:=by rw[hw2];simp
 have F2:=hid (show Below w.heap.size w w2 by rw[hw2];exact dH (dH hb _) _);have SZ:w1.heap.size<(w1.alloc (.cells #[.string x1,.string x2] 67)).heap.size:=by simp
 have c0:w2.cell? ⟨w1.heap.size,0,none⟩=some (.string x1):=by rw[hw2];exact(q_lt SZ).trans ((aM rfl).trans rfl)
 have c1:w2.cell? ⟨w1.heap.size,1,none⟩=some (.string x2):=by rw[hw2];exact(q_lt SZ).trans ((aM rfl).trans rfl)
 have c2:w2.cell? ⟨w1.heap.size+1,0,none⟩=some (.string y1):=by rw[hw2];exact(aM (by simp)).trans rfl
 have c3:w2.cell? ⟨w1.heap.size+1,1,none⟩=some (.string y2):=by rw[hw2];exact(aM (by simp)).trans rfl
 have KS:=hid (show ∀ W:World,Below w2.heap.size w2 W→(W.cell? ⟨w1.heap.size,0,none⟩=some (.string x1)∧W.cell? ⟨w1.heap.size,1,none⟩=some (.string x2)∧W.cell? ⟨w1.heap.size+1,0,none⟩=some (.string y1)∧W.cell? ⟨w1.heap.size+1,1,none⟩=some (.string y2)) from fun W hB =>
  ⟨hB.kc c0 (by omega),hB.kc c1 (by omega),hB.kc c2 (by omega),hB.kc c3 (by omega)⟩)
 have KB:=hid (show ∀ W:World,Below w2.heap.size w2 W→Below w.heap.size w W from fun W hB=>F2.o.trans (hB.mono F2.o.size));obtain⟨v1,e1,hp⟩:=jB (P:=Tryz.prog) (w2.alloc (.map #[] 0)) 127 5 126 (.int .u8) underlying127 underlying5 w2.heap.size #[] 0 (yx w2 (.map #[] 0)) (.int .u8 43) (.agg #[.func (.func 106) #[] #[],.func (.func 107) #[] #[]]) rfl rfl;have hm1:=hp.here;have FM1:=mG hp ((Below.refl w2.heap.size w2).alloc (Nat.le_refl _) (.map #[] 0));have hs1:=hp.size;clear hp;obtain⟨v2,e2,hp⟩:=jB (P:=Tryz.prog) v1 127 5 126 (.int .u8) underlying127 underlying5 w2.heap.size #[⟨.int .u8 43,.agg #[.func (.func 106) #[] #[],.func (.func 107) #[] #[]],0⟩] 1 hm1 (.int .u8 45) (.agg #[.func (.func 108) #[] #[],.func (.func 109) #[] #[]]) rfl rfl;have hm2:=hp.here;have FM2:=mG hp FM1;have hs2:=hp.size;clear hp hm1 FM1;obtain⟨v3,e3,hp⟩:=jB (P:=Tryz.prog) v2 127 5 126 (.int .u8) underlying127 underlying5 w2.heap.size #[⟨.int .u8 43,.agg #[.func (.func 106) #[] #[],.func (.func 107) #[] #[]],0⟩,⟨.int .u8 45,.agg #[.func (.func 108) #[] #[],.func (.func 109) #[] #[]],1⟩] 2 hm2 (.int .u8 42) (.agg #[.func (.func 110) #[] #[],.func (.func 111) #[] #[]]) rfl rfl;have hm3:=hp.here;have FM3:=mG hp FM2;have hs3:=hp.size;clear hp hm2 FM2;obtain⟨v4,e4,hp⟩:=jB (P:=Tryz.prog) v3 127 5 126 (.int .u8) underlying127 underlying5 w2.heap.size #[⟨.int .u8 43,.agg #[.func (.func 106) #[] #[],.func (.func 107) #[] #[]],0⟩,⟨.int .u8 45,.agg #[.func (.func 108) #[] #[],.func (.func 109) #[] #[]],1⟩,⟨.int .u8 42,.agg #[.func (.func 110) #[] #[],.func (.func 111) #[] #[]],2⟩] 3 hm3 (.int .u8 47) (.agg #[.func (.func 112) #[] #[],.func (.func 113) #[] #[]]) rfl rfl;have hm4:=hp.here;have FM4:=mG hp FM3;have hs4:=hp.size;clear hp hm3 FM3;have e5:=z1g (P:=Tryz.prog) v4 127 5 126 (.int .u8) underlying127 underlying5 w2.heap.size _ 4 hm4 (.int .u8 ch) hk o _ hf;clear hk hf;have FM4:=hid FM4;have s4:v4.heap.size=w2.heap.size+1:=by rw[hs4,hs3,hs2,hs1];simp
 have s4:=hid s4;have hmk := @run_makeMap Tryz.prog;clear hb hw2 z2 SZ c0 c1 c2 c3 hm4 hs1 hs2 hs3 hs4;go_upto_region 4 with fail
 rw[← HW2.o];obtain⟨v5,hv5⟩:∃ W:World,W=v4.alloc (.cells #[.func (.func fs) #[] #[],.func (.func fa) #[] #[]] 126):=⟨_,rfl⟩;have HV5:=hid hv5;have F5:Below w2.heap.size w2 v5:=by rw[hv5];exact dH FM4.o _
 have f0:v5.cell? ⟨w2.heap.size+1,0,none⟩=some (.func (.func fs) #[] #[]):=by rw[hv5];exact(aM s4.o.symm).trans rfl
 have f1:v5.cell? ⟨w2.heap.size+1,1,none⟩=some (.func (.func fa) #[] #[]):=by rw[hv5];exact(aM s4.o.symm).trans rfl
 have z5:w2.heap.size+1<v5.heap.size:=by rw[hv5];simp;have:=s4.o;omega
 obtain⟨d0,d1,d2,d3⟩:=KS.o _ F5;obtain ⟨F5,f0,f1,z5⟩:=aN F5 f0 f1 z5;clear hv5;go_upto_region 6 with fail
 rw[← HV5.o];go_wp2_with fail
 refine(C2.o _).mono ?_;rintro e w6 ⟨rfl,hb6⟩;obtain⟨v7,hv7⟩:∃ W:World,W=(w6.alloc (.cells #[.int .i64 p,.int .i64 q] 129)).alloc (.cells #[.int .i64 r,.int .i64 s] 129):=⟨_,rfl⟩;have HV7:=hid hv7;have b7:Below v5.heap.size v5 v7:=by rw[hv7];exact dH (dH hb6 _) _
 have F7:=hid (F5.o.trans (b7.mono F5.o.size));have g0:=(b7.cell (p:=⟨w2.heap.size+1,0,none⟩) z5.o).trans f0.o;have g1:=(b7.cell (p:=⟨w2.heap.size+1,1,none⟩) z5.o).trans f1.o;clear d0 d1 d2 d3;obtain⟨d0,d1,d2,d3⟩:=KS.o _ F7.o;have SZ:w6.heap.size<(w6.alloc (.cells #[.int .i64 p,.int .i64 q] 129)).heap.size:=by simp
 have k0:v7.cell? ⟨w6.heap.size,0,none⟩=some (.int .i64 p):=by rw[hv7];exact(q_lt SZ).trans ((aM rfl).trans rfl)
 have k1:v7.cell? ⟨w6.heap.size,1,none⟩=some (.int .i64 q):=by rw[hv7];exact(q_lt SZ).trans ((aM rfl).trans rfl)
 have k2:v7.cell? ⟨w6.heap.size+1,0,none⟩=some (.int .i64 r):=by rw[hv7];exact(aM (by simp)).trans rfl
 have k3:v7.cell? ⟨w6.heap.size+1,1,none⟩=some (.int .i64 s):=by rw[hv7];exact(aM (by simp)).trans rfl
 clear hv7 b7 SZ hb6;go_upto_region 8 with fail
 rw[← HV7.o];rcases HSEL.o with⟨rfl,rfl,rfl⟩|⟨rfl,rfl,rfl⟩|⟨rfl,rfl,rfl⟩|⟨rfl,rfl,rfl⟩
 all_goals
  go_wp2_with fail
  refine(C3.o _).mono ?_;rintro e w8 ⟨rfl,hb8⟩;have F8:=hid (au F7.o hb8);clear hb8;go_wp2_with fail
  refine(C4.o _ (HL.o.on (KB.o _ F8.o))).mono ?_;rintro e w9 ⟨rfl,hb9⟩;have F9:=hid (au F8.o hb9);clear hb9;go_wp2;go_ret2
  exact⟨rfl,KB.o _ F9.o⟩
theorem fu (a b x1 x2 y1 y2 d t u:ByteArray)(ch:Int)(fs fa:Nat)(o:Nat)(hsel:(ch=43∧fs=106∧fa=107)∨(ch=45∧fs=108∧fa=109)∨(ch=42∧fs=110∧fa=111)∨(ch=47∧fs=112∧fa=113))(hk:MapKept.IsKey (.int .u8) (.int .u8 ch))(hf:Instr.findNow (.int .u8) (.int .u8 ch) (#[⟨.int .u8 43,.agg #[.func (.func 106) #[] #[],.func (.func 107) #[] #[]],0⟩,⟨.int .u8 45,.agg #[.func (.func 108) #[] #[],.func (.func 109) #[] #[]],1⟩,⟨.int .u8 42,.agg #[.func (.func 110) #[] #[],.func (.func 111) #[] #[]],2⟩,⟨.int .u8 47,.agg #[.func (.func 112) #[] #[],.func (.func 113) #[] #[]],3⟩]:Array MapEntry).toList 0=some (some (o,.agg #[.func (.func fs) #[] #[],.func (.func fa) #[] #[]])))(w:World)(hl:La w)
 (h1:CL 74 #[.string a,.string b] (.tuple #[.agg #[.string x1,.string x2],.agg #[.string y1,.string y2],.bool true]))
 (h2:CQ 114 #[.agg #[.string x1,.string x2],.agg #[.string y1,.string y2]] (.tuple #[.agg #[.int .i64 0,.int .i64 0],.agg #[.int .i64 0,.int .i64 0],.bool false]))
 (h3:CL fa #[.agg #[.string x1,.string x2],.agg #[.string y1,.string y2]] (.agg #[.string t,.string u]))
 (h4:CQ 116 #[.agg #[.string t,.string u]] (.string d)) :
 CR 72 #[.string a,.int .u8 ch,.string b] w (.tuple #[.string d,.int .i64 0]):=by
 have HSEL:=hid hsel;clear hsel;obtain ⟨C1,C2,C3,C4,HL⟩:=bz (h1 w hl) h2 h3 h4 hl;clear h1 h2 h3 h4 hl;go_enter func72,ntmps72
 go_wp2_with fail
 refine C1.o.mono ?_;rintro e w1 ⟨rfl,hb⟩;have F1:=hid hb;obtain⟨w2,hw2⟩:∃ W:World,W=(w1.alloc (.cells #[.string x1,.string x2] 67)).alloc (.cells #[.string y1,.string y2] 67):=⟨_,rfl⟩;have HW2:=hid hw2;have z2:w2.heap.size=w1.heap.size+1+1:=by rw[hw2];simp
 have F2:=hid (show Below w.heap.size w w2 by rw[hw2];exact dH (dH hb _) _);have SZ:w1.heap.size<(w1.alloc (.cells #[.string x1,.string x2] 67)).heap.size:=by simp
 have c0:w2.cell? ⟨w1.heap.size,0,none⟩=some (.string x1):=by rw[hw2];exact(q_lt SZ).trans ((aM rfl).trans rfl)
 have c1:w2.cell? ⟨w1.heap.size,1,none⟩=some (.string x2):=by rw[hw2];exact(q_lt SZ).trans ((aM rfl).trans rfl)
 have c2:w2.cell? ⟨w1.heap.size+1,0,none⟩=some (.string y1):=by rw[hw2];exact(aM (by simp)).trans rfl
 have c3:w2.cell? ⟨w1.heap.size+1,1,none⟩=some (.string y2):=by rw[hw2];exact(aM (by simp)).trans rfl
 have KS:=hid (show ∀ W:World,Below w2.heap.size w2 W→(W.cell? ⟨w1.heap.size,0,none⟩=some (.string x1)∧W.cell? ⟨w1.heap.size,1,none⟩=some (.string x2)∧W.cell? ⟨w1.heap.size+1,0,none⟩=some (.string y1)∧W.cell? ⟨w1.heap.size+1,1,none⟩=some (.string y2)) from fun W hB =>
  ⟨hB.kc c0 (by omega),hB.kc c1 (by omega),hB.kc c2 (by omega),hB.kc c3 (by omega)⟩)
 have KB:=hid (show ∀ W:World,Below w2.heap.size w2 W→Below w.heap.size w W from fun W hB=>F2.o.trans (hB.mono F2.o.size));obtain⟨v1,e1,hp⟩:=jB (P:=Tryz.prog) (w2.alloc (.map #[] 0)) 127 5 126 (.int .u8) underlying127 underlying5 w2.heap.size #[] 0 (yx w2 (.map #[] 0)) (.int .u8 43) (.agg #[.func (.func 106) #[] #[],.func (.func 107) #[] #[]]) rfl rfl;have hm1:=hp.here;have FM1:=mG hp ((Below.refl w2.heap.size w2).alloc (Nat.le_refl _) (.map #[] 0));have hs1:=hp.size;clear hp;obtain⟨v2,e2,hp⟩:=jB (P:=Tryz.prog) v1 127 5 126 (.int .u8) underlying127 underlying5 w2.heap.size #[⟨.int .u8 43,.agg #[.func (.func 106) #[] #[],.func (.func 107) #[] #[]],0⟩] 1 hm1 (.int .u8 45) (.agg #[.func (.func 108) #[] #[],.func (.func 109) #[] #[]]) rfl rfl;have hm2:=hp.here;have FM2:=mG hp FM1;have hs2:=hp.size;clear hp hm1 FM1;obtain⟨v3,e3,hp⟩:=jB (P:=Tryz.prog) v2 127 5 126 (.int .u8) underlying127 underlying5 w2.heap.size #[⟨.int .u8 43,.agg #[.func (.func 106) #[] #[],.func (.func 107) #[] #[]],0⟩,⟨.int .u8 45,.agg #[.func (.func 108) #[] #[],.func (.func 109) #[] #[]],1⟩] 2 hm2 (.int .u8 42) (.agg #[.func (.func 110) #[] #[],.func (.func 111) #[] #[]]) rfl rfl;have hm3:=hp.here;have FM3:=mG hp FM2;have hs3:=hp.size;clear hp hm2 FM2;obtain⟨v4,e4,hp⟩:=jB (P:=Tryz.prog) v3 127 5 126 (.int .u8) underlying127 underlying5 w2.heap.size #[⟨.int .u8 43,.agg #[.func (.func 106) #[] #[],.func (.func 107) #[] #[]],0⟩,⟨.int .u8 45,.agg #[.func (.func 108) #[] #[],.func (.func 109) #[] #[]],1⟩,⟨.int .u8 42,.agg #[.func (.func 110) #[] #[],.func (.func 111) #[] #[]],2⟩] 3 hm3 (.int .u8 47) (.agg #[.func (.func 112) #[] #[],.func (.func 113) #[] #[]]) rfl rfl;have hm4:=hp.here;have FM4:=mG hp FM3;have hs4:=hp.size;clear hp hm3 FM3;have e5:=z1g (P:=Tryz.prog) v4 127 5 126 (.int .u8) underlying127 underlying5 w2.heap.size _ 4 hm4 (.int .u8 ch) hk o _ hf;clear hk hf;have FM4:=hid FM4;have s4:v4.heap.size=w2.heap.size+1:=by rw[hs4,hs3,hs2,hs1];simp
 have s4:=hid s4;have hmk := @run_makeMap Tryz.prog;clear hb hw2 z2 SZ c0 c1 c2 c3 hm4 hs1 hs2 hs3 hs4;go_upto_region 4 with fail
 rw[← HW2.o];obtain⟨v5,hv5⟩:∃ W:World,W=v4.alloc (.cells #[.func (.func fs) #[] #[],.func (.func fa) #[] #[]] 126):=⟨_,rfl⟩;have HV5:=hid hv5;have F5:Below w2.heap.size w2 v5:=by rw[hv5];exact dH FM4.o _
 have f0:v5.cell? ⟨w2.heap.size+1,0,none⟩=some (.func (.func fs) #[] #[]):=by rw[hv5];exact(aM s4.o.symm).trans rfl
 have f1:v5.cell? ⟨w2.heap.size+1,1,none⟩=some (.func (.func fa) #[] #[]):=by rw[hv5];exact(aM s4.o.symm).trans rfl
 have z5:w2.heap.size+1<v5.heap.size:=by rw[hv5];simp;have:=s4.o;omega
 obtain⟨d0,d1,d2,d3⟩:=KS.o _ F5;obtain ⟨F5,f0,f1,z5⟩:=aN F5 f0 f1 z5;clear hv5;go_upto_region 6 with fail
 rw[← HV5.o];go_wp2_with fail
 refine(C2.o _).mono ?_;rintro e w6 ⟨rfl,hb6⟩;obtain⟨v7,hv7⟩:∃ W:World,W=(w6.alloc (.cells #[.int .i64 0,.int .i64 0] 129)).alloc (.cells #[.int .i64 0,.int .i64 0] 129):=⟨_,rfl⟩;have HV7:=hid hv7;have b7:Below v5.heap.size v5 v7:=by rw[hv7];exact dH (dH hb6 _) _
 have F7:=hid (F5.o.trans (b7.mono F5.o.size));have g0:=(b7.cell (p:=⟨w2.heap.size+1,0,none⟩) z5.o).trans f0.o;have g1:=(b7.cell (p:=⟨w2.heap.size+1,1,none⟩) z5.o).trans f1.o;clear d0 d1 d2 d3;obtain⟨d0,d1,d2,d3⟩:=KS.o _ F7.o;have SZ:w6.heap.size<(w6.alloc (.cells #[.int .i64 0,.int .i64 0] 129)).heap.size:=by simp
 have k0:v7.cell? ⟨w6.heap.size,0,none⟩=some (.int .i64 0):=by rw[hv7];exact(q_lt SZ).trans ((aM rfl).trans rfl)
 have k1:v7.cell? ⟨w6.heap.size,1,none⟩=some (.int .i64 0):=by rw[hv7];exact(q_lt SZ).trans ((aM rfl).trans rfl)
 have k2:v7.cell? ⟨w6.heap.size+1,0,none⟩=some (.int .i64 0):=by rw[hv7];exact(aM (by simp)).trans rfl
 have k3:v7.cell? ⟨w6.heap.size+1,1,none⟩=some (.int .i64 0):=by rw[hv7];exact(aM (by simp)).trans rfl
 clear hv7 b7 SZ hb6;go_upto_region 9 with fail
 rw[← HV7.o];rcases HSEL.o with⟨rfl,rfl,rfl⟩|⟨rfl,rfl,rfl⟩|⟨rfl,rfl,rfl⟩|⟨rfl,rfl,rfl⟩
 all_goals
  go_wp2_with fail
  refine(C3.o _ (HL.o.on (KB.o _ F7.o))).mono ?_;rintro e w8 ⟨rfl,hb8⟩;have F8:=hid (au F7.o hb8);clear hb8;go_wp2_with fail
  refine(C4.o _).mono ?_;rintro e w9 ⟨rfl,hb9⟩;have F9:=hid (au F8.o hb9);clear hb9;go_wp2;go_ret2
  exact⟨rfl,KB.o _ F9.o⟩
theorem kQ (a b x1 x2 y1 y2 d:ByteArray)(p q r s t u:Int)(w:World)(hl:La w)
 (h1:CL 74 #[.string a,.string b] (.tuple #[.agg #[.string x1,.string x2],.agg #[.string y1,.string y2],.bool true]))
 (h2:CQ 114 #[.agg #[.string x1,.string x2],.agg #[.string y1,.string y2]] (.tuple #[.agg #[.int .i64 p,.int .i64 q],.agg #[.int .i64 r,.int .i64 s],.bool true]))
 (h3:CQ 106 #[.agg #[.int .i64 p,.int .i64 q],.agg #[.int .i64 r,.int .i64 s]] (.agg #[.int .i64 t,.int .i64 u]))
 (h4:CL 115 #[.agg #[.int .i64 t,.int .i64 u]] (.string d)) :
 CR 72 #[.string a,.int .u8 43,.string b] w (.tuple #[.string d,.int .i64 0]) :=
 dZ a b x1 x2 y1 y2 d p q r s t u 43 106 107 0 (by simp) rfl rfl w hl h1 h2 h3 h4
theorem mO (a b x1 x2 y1 y2 d t u:ByteArray)(w:World)(hl:La w)
 (h1:CL 74 #[.string a,.string b] (.tuple #[.agg #[.string x1,.string x2],.agg #[.string y1,.string y2],.bool true]))
 (h2:CQ 114 #[.agg #[.string x1,.string x2],.agg #[.string y1,.string y2]] (.tuple #[.agg #[.int .i64 0,.int .i64 0],.agg #[.int .i64 0,.int .i64 0],.bool false]))
 (h3:CL 107 #[.agg #[.string x1,.string x2],.agg #[.string y1,.string y2]] (.agg #[.string t,.string u]))
 (h4:CQ 116 #[.agg #[.string t,.string u]] (.string d)) :
 CR 72 #[.string a,.int .u8 43,.string b] w (.tuple #[.string d,.int .i64 0]) :=
 fu a b x1 x2 y1 y2 d t u 43 106 107 0 (by simp) rfl rfl w hl h1 h2 h3 h4
theorem ku (a b x1 x2 y1 y2 d:ByteArray)(p q r s t u:Int)(w:World)(hl:La w)
 (h1:CL 74 #[.string a,.string b] (.tuple #[.agg #[.string x1,.string x2],.agg #[.string y1,.string y2],.bool true]))
 (h2:CQ 114 #[.agg #[.string x1,.string x2],.agg #[.string y1,.string y2]] (.tuple #[.agg #[.int .i64 p,.int .i64 q],.agg #[.int .i64 r,.int .i64 s],.bool true]))
 (h3:CQ 108 #[.agg #[.int .i64 p,.int .i64 q],.agg #[.int .i64 r,.int .i64 s]] (.agg #[.int .i64 t,.int .i64 u]))
 (h4:CL 115 #[.agg #[.int .i64 t,.int .i64 u]] (.string d)) :
 CR 72 #[.string a,.int .u8 45,.string b] w (.tuple #[.string d,.int .i64 0]) :=
 dZ a b x1 x2 y1 y2 d p q r s t u 45 108 109 1 (by simp) rfl rfl w hl h1 h2 h3 h4
theorem lN (a b x1 x2 y1 y2 d t u:ByteArray)(w:World)(hl:La w)
 (h1:CL 74 #[.string a,.string b] (.tuple #[.agg #[.string x1,.string x2],.agg #[.string y1,.string y2],.bool true]))
 (h2:CQ 114 #[.agg #[.string x1,.string x2],.agg #[.string y1,.string y2]] (.tuple #[.agg #[.int .i64 0,.int .i64 0],.agg #[.int .i64 0,.int .i64 0],.bool false]))
 (h3:CL 109 #[.agg #[.string x1,.string x2],.agg #[.string y1,.string y2]] (.agg #[.string t,.string u]))
 (h4:CQ 116 #[.agg #[.string t,.string u]] (.string d)) :
 CR 72 #[.string a,.int .u8 45,.string b] w (.tuple #[.string d,.int .i64 0]) :=
 fu a b x1 x2 y1 y2 d t u 45 108 109 1 (by simp) rfl rfl w hl h1 h2 h3 h4
theorem lM (a b x1 x2 y1 y2 d:ByteArray)(p q r s t u:Int)(w:World)(hl:La w)
 (h1:CL 74 #[.string a,.string b] (.tuple #[.agg #[.string x1,.string x2],.agg #[.string y1,.string y2],.bool true]))
 (h2:CQ 114 #[.agg #[.string x1,.string x2],.agg #[.string y1,.string y2]] (.tuple #[.agg #[.int .i64 p,.int .i64 q],.agg #[.int .i64 r,.int .i64 s],.bool true]))
 (h3:CQ 110 #[.agg #[.int .i64 p,.int .i64 q],.agg #[.int .i64 r,.int .i64 s]] (.agg #[.int .i64 t,.int .i64 u]))
 (h4:CL 115 #[.agg #[.int .i64 t,.int .i64 u]] (.string d)) :
 CR 72 #[.string a,.int .u8 42,.string b] w (.tuple #[.string d,.int .i64 0]) :=
 dZ a b x1 x2 y1 y2 d p q r s t u 42 110 111 2 (by simp) rfl rfl w hl h1 h2 h3 h4
theorem nP (a b x1 x2 y1 y2 d t u:ByteArray)(w:World)(hl:La w)
 (h1:CL 74 #[.string a,.string b] (.tuple #[.agg #[.string x1,.string x2],.agg #[.string y1,.string y2],.bool true]))
 (h2:CQ 114 #[.agg #[.string x1,.string x2],.agg #[.string y1,.string y2]] (.tuple #[.agg #[.int .i64 0,.int .i64 0],.agg #[.int .i64 0,.int .i64 0],.bool false]))
 (h3:CL 111 #[.agg #[.string x1,.string x2],.agg #[.string y1,.string y2]] (.agg #[.string t,.string u]))
 (h4:CQ 116 #[.agg #[.string t,.string u]] (.string d)) :
 CR 72 #[.string a,.int .u8 42,.string b] w (.tuple #[.string d,.int .i64 0]) :=
 fu a b x1 x2 y1 y2 d t u 42 110 111 2 (by simp) rfl rfl w hl h1 h2 h3 h4
theorem iP (a b x1 x2 y1 y2 d:ByteArray)(p q r s t u:Int)(w:World)(hl:La w)
 (h1:CL 74 #[.string a,.string b] (.tuple #[.agg #[.string x1,.string x2],.agg #[.string y1,.string y2],.bool true]))
 (h2:CQ 114 #[.agg #[.string x1,.string x2],.agg #[.string y1,.string y2]] (.tuple #[.agg #[.int .i64 p,.int .i64 q],.agg #[.int .i64 r,.int .i64 s],.bool true]))
 (h3:CQ 112 #[.agg #[.int .i64 p,.int .i64 q],.agg #[.int .i64 r,.int .i64 s]] (.agg #[.int .i64 t,.int .i64 u]))
 (h4:CL 115 #[.agg #[.int .i64 t,.int .i64 u]] (.string d)) :
 CR 72 #[.string a,.int .u8 47,.string b] w (.tuple #[.string d,.int .i64 0]) :=
 dZ a b x1 x2 y1 y2 d p q r s t u 47 112 113 3 (by simp) rfl rfl w hl h1 h2 h3 h4
theorem nQ (a b x1 x2 y1 y2 d t u:ByteArray)(w:World)(hl:La w)
 (h1:CL 74 #[.string a,.string b] (.tuple #[.agg #[.string x1,.string x2],.agg #[.string y1,.string y2],.bool true]))
 (h2:CQ 114 #[.agg #[.string x1,.string x2],.agg #[.string y1,.string y2]] (.tuple #[.agg #[.int .i64 0,.int .i64 0],.agg #[.int .i64 0,.int .i64 0],.bool false]))
 (h3:CL 113 #[.agg #[.string x1,.string x2],.agg #[.string y1,.string y2]] (.agg #[.string t,.string u]))
 (h4:CQ 116 #[.agg #[.string t,.string u]] (.string d)) :
 CR 72 #[.string a,.int .u8 47,.string b] w (.tuple #[.string d,.int .i64 0]) :=
 fu a b x1 x2 y1 y2 d t u 47 112 113 3 (by simp) rfl rfl w hl h1 h2 h3 h4
