/- Texts of this proof, one behind the other. -/
import Derived.Test.YthjmjlfnpnbonaaGreatDoorIj
set_option maxRecDepth 100000
set_option maxHeartbeats 20000000
open Go.Lib (hid)
namespace Go.Proofs.YthjmjlfnpnbonaaGreatDoor
open Go.RowKit Go.Gb
theorem divMod_walk (a1 a2:ByteArray)(s t q1 q2:Int)(b c d1 d2 r1 r2:ByteArray)(ht:t≠0)(w:World)(hl:Zz w)
 (hread:CR 168 #[.string a1,.string a2] w (.tuple #[.agg #[.int .i64 s,.string b],.agg #[.int .i64 t,.string c],.bool true]))
 (hop:∀ W,Below w.heap.size w W→CR 172 #[.agg #[.int .i64 s,.string b],.agg #[.int .i64 t,.string c]] W (.tuple #[.agg #[.int .i64 q1,.string d1],.agg #[.int .i64 q2,.string d2]]))
 (hs1:CQ 173 #[.agg #[.int .i64 q1,.string d1]] (.string r1))
 (hs2:CQ 173 #[.agg #[.int .i64 q2,.string d2]] (.string r2)) :
 CR 146 #[.string a1,.string a2] w (.tuple #[.string r1,.string r2,.int .i64 0]):=by
 have HR:=hid hread
 have HO:=hid hop
 have HS1:=hid hs1
 have HS2:=hid hs2
 have HZ:=hid hl
 have ht1:(t==0)=false:=by simpa using ht
 clear hread hop hs1 hs2 hl
 go_enter Tryz.func146,Tryz.ntmps146
 go_wp2_with fail
 refine HR.out.mono ?_
 rintro e w1 ⟨rfl,hb1⟩
 have HB1:=hid ((hb1.alloc hb1.size (.cells #[.int .i64 s,.string b] 155)).alloc (by have:=hb1.size;simp;omega) (.cells #[.int .i64 t,.string c] 155))
 obtain⟨z0,z1,z2⟩:=HZ.out.on HB1.out
 clear hb1
 go_wp2_with fail
 refine(HO.out _ HB1.out).mono ?_
 rintro e w2 ⟨rfl,hb2⟩
 have HB2:=hid (((HB1.out.trans (hb2.mono HB1.out.size)).alloc (HB1.out.trans (hb2.mono HB1.out.size)).size (.cells #[.int .i64 q1,.string d1] 155)).alloc (by have:=(HB1.out.trans (hb2.mono HB1.out.size)).size;simp;omega) (.cells #[.int .i64 q2,.string d2] 155))
 clear hb2 z0 z1 z2
 go_wp2
 go_region_with (first|(go_at_call 173;(with_reducible refine(HS1.out _).mono ?_);rintro e w3 ⟨rfl,hb3⟩;have HB3:Below w.heap.size w w3:=(by first|exact HB2.out.trans (hb3.mono HB2.out.size)|exact HB2.out.drew.trans (hb3.mono HB2.out.drew.size));obtain⟨hc3,hf3⟩:=bcell hb3)|(go_at_call 173;(with_reducible refine(HS2.out _).mono ?_);rintro e w4 ⟨rfl,hb4⟩;have HB4:Below w.heap.size w w4:=(HB3.trans (hb4.mono HB3.size))))
 all_goals
  clear hb3 hb4
  go_wp2
  go_ret3
  exact⟨rfl,HB4⟩
theorem div_formula (x y:Int)(hy:y≠0)(Q R:Int)(hQ:Q=if 0≤x∨x.natAbs%y.natAbs=0 then x.sign*(y.sign*((x.natAbs / y.natAbs:Nat):Int)) else -(y.sign*((x.natAbs / y.natAbs:Nat):Int))-y.sign)
 (hR:R=if 0≤x∨x.natAbs%y.natAbs=0 then ((x.natAbs%y.natAbs:Nat):Int) else (y.natAbs:Int)-((x.natAbs%y.natAbs:Nat):Int)) :
 R+y*Q=x∧0≤R∧R<(y.natAbs:Int):=by
 have hn:0<y.natAbs:=by omega
 have hdm:=Nat.div_add_mod x.natAbs y.natAbs
 have hml:=Nat.mod_lt x.natAbs hn
 have hp:(y.natAbs:Int)*((x.natAbs / y.natAbs:Nat):Int)+((x.natAbs%y.natAbs:Nat):Int)=(x.natAbs:Int):=by
  rw[← Int.natCast_mul,← Int.natCast_add,hdm]
 generalize hk:x.natAbs / y.natAbs=k at *
 generalize hr:x.natAbs%y.natAbs=r at *
 have ys:(y.sign=1∧y=(y.natAbs:Int))∨(y.sign = -1∧y = -(y.natAbs:Int)):=by
  rcases int_cases y with⟨n,hn2,rfl⟩|rfl|⟨n,hn2,rfl⟩
  · right;rw[Int.sign_neg,Int.sign_natCast_of_ne_zero hn2];simp
  · exact absurd rfl hy
  · left;rw[Int.sign_natCast_of_ne_zero hn2];simp
 have xs:(x.sign=1∧x=(x.natAbs:Int)∧0≤x)∨(x.sign=0∧x=0∧x.natAbs=0)∨(x.sign = -1∧x = -(x.natAbs:Int)∧¬ 0≤x):=by
  rcases int_cases x with⟨n,hn,rfl⟩|rfl|⟨n,hn,rfl⟩
  · right;right;rw[Int.sign_neg,Int.sign_natCast_of_ne_zero hn];simp;omega
  · right;left;simp
  · left;rw[Int.sign_natCast_of_ne_zero hn];simp
 generalize y.natAbs=n at *
 generalize x.natAbs=m at *
 rcases ys with⟨e1,e2⟩|⟨e1,e2⟩<;>rcases xs with⟨f1,f2,f3⟩|⟨f1,f2,f3⟩|⟨f1,f2,f3⟩
 all_goals
  rw[e1]at hQ
  rw[f1]at hQ
  by_cases hc:0≤x∨r=0
  · rw[if_pos hc]at hQ hR
    refine⟨by rw[hQ,hR];first|grind|(rcases hc with hc|hc<;>grind),by omega,by omega⟩
  · rw[if_neg hc]at hQ hR
    refine⟨by rw[hQ,hR];grind,by omega,by omega⟩
theorem div_of_formula (x y:Int)(hy:y≠0)(Q R:Int)(h:R+y*Q=x∧0≤R∧R<(y.natAbs:Int)):x / y=Q∧x%y=R:=by
 rcases Int.lt_or_gt_of_ne hy with h0|h0
 · exact(Int.ediv_emod_unique' h0).2 ⟨h.1,h.2.1,by omega⟩
 · exact(Int.ediv_emod_unique h0).2 ⟨h.1,h.2.1,by omega⟩
theorem Fit.le {m n:Nat}(h:Fit n)(hm:m≤n):Fit m:=by unfold Fit at *;exact Sm.le h hm
theorem fitZ_le {x:Int}{n:Nat}(h:Fit n)(hx:x.natAbs≤n):FitZ x:=by unfold FitZ;exact Fit.le h hx
theorem divide_e (x y q r:Int)(hy:y≠0)(hq:x / y=q)(hr:x%y=r)(fx:FitZ x)(fy:FitZ y)(fq:Fit (x.natAbs+1))(w:World)(hl:La w) :
 CR 172 #[Zv x,Zv y] w (.tuple #[Zv q,Zv r]):=by
 have h:=div_of_formula x y hy _ _ (div_formula x y hy _ _ rfl rfl)
 rw[hq,hr]at h
 exact divide_any' x y hy q r h.1 h.2 fx fy (Fit.le fq (Nat.succ_le_succ (Nat.div_le_self x.natAbs y.natAbs))) w hl
theorem quo_le (x y:Int)(hy:y≠0):(x / y).natAbs≤x.natAbs+1:=by
 obtain⟨h1,h2⟩:=div_of_formula x y hy _ _ (div_formula x y hy _ _ rfl rfl)
 rw[h1]
 have hk:=Nat.div_le_self x.natAbs y.natAbs
 have ys:=Int.sign_trichotomy y
 have xs:=Int.sign_trichotomy x
 generalize x.natAbs / y.natAbs=k at *
 generalize x.natAbs%y.natAbs=r at *
 split
 · rcases ys with e|e|e<;>rcases xs with f|f|f<;>rw[e,f]<;>simp<;>omega
 · rcases ys with e|e|e<;>rw[e]<;>simp<;>omega
theorem zDivMod (x y q r:Int)(hy:y≠0)(hq:x / y=q)(hr:x%y=r)(fx:FitZ x)(fy:FitZ y)(fq:Fit (x.natAbs+1))(w:World)(hl:La w) :
 CR 146 #[.string (Sz x),.string (Sz y)] w (.tuple #[.string (Sz q),.string (Sz r),.int .i64 0]):=by
 have fQ:FitZ q:=by
  rw[← hq]
  exact fitZ_le fq (quo_le x y hy)
 have fR:FitZ r:=by
  have hf:=div_formula x y hy _ _ rfl rfl
  have he:=(div_of_formula x y hy _ _ hf).2
  rw[hr]at he
  rw[← he]at hf
  have h1:=hf.2.1
  have h2:=hf.2.2
  exact fitZ_le fy (by omega)
 have hs:y.sign≠0:=fun h=>hy (Int.sign_eq_zero_iff_zero.1 h)
 have h1:=readBoth_yes x y fx fy w hl.zz
 have h2:=fun W (hW:Below w.heap.size w W)=>divide_e x y q r hy hq hr fx fy fq W (hl.on hW)
 have h3:=fun W=>string_any q fQ W
 have h4:=fun W=>string_any r fR W
 unfold Zv at h1 h2 h3 h4
 exact divMod_walk _ _ _ _ _ _ _ _ _ _ _ _ hs w hl.zz h1 h2 h3 h4
open Go.RowKit Go.Gb
theorem sTo (z:Int)(s:ByteArray)(hs:Sz z=s)(hf:zlen z≤10000)(hs2:(Sn z.natAbs).size≤100000)(p:Option Addr)(c:Nat)(w:World)(h:RN w (.slice p (zlen z) c) z.natAbs) :
 CR 52 #[.agg #[.bool (zneg z),.slice p (zlen z) c]] w (.string s):=by subst hs;exact zTo _ z hf hs2 w (Rz.mk h)
theorem sSignum (z s:Int)(hs:z.sign=s)(p:Option Addr)(c:Nat)(w:World)(h:RN w (.slice p (zlen z) c) z.natAbs) :
 CR 50 #[.agg #[.bool (zneg z),.slice p (zlen z) c]] w (.int .i64 s):=by subst hs;exact zSignum _ z w (Rz.mk h)
theorem sTimes (x y z:Int)(hz:x*y=z)(hx:zlen x≤50000)(hy:zlen y≤50000)(p1:Option Addr)(c1:Nat)(p2:Option Addr)(c2:Nat)(w:World)(r1:RN w (.slice p1 (zlen x) c1) x.natAbs)(r2:RN w (.slice p2 (zlen y) c2) y.natAbs) :
 CZ 82 #[.agg #[.bool (zneg x),.slice p1 (zlen x) c1],.agg #[.bool (zneg y),.slice p2 (zlen y) c2]] w z:=by subst hz;exact rz_sh (zTimes _ _ x y hx hy w (Rz.mk r1) (Rz.mk r2))
theorem sPlus (x y z:Int)(hz:x+y=z)(hx:zlen x≤50000)(hy:zlen y≤50000)(p1:Option Addr)(c1:Nat)(p2:Option Addr)(c2:Nat)(w:World)(r1:RN w (.slice p1 (zlen x) c1) x.natAbs)(r2:RN w (.slice p2 (zlen y) c2) y.natAbs) :
 CZ 86 #[.agg #[.bool (zneg x),.slice p1 (zlen x) c1],.agg #[.bool (zneg y),.slice p2 (zlen y) c2]] w z:=by subst hz;exact rz_sh (zPlus _ _ x y hx hy w (Rz.mk r1) (Rz.mk r2))
theorem sOpposite (x z:Int)(hz : -x=z)(hx:zlen x≤1000000)(p1:Option Addr)(c1:Nat)(w:World)(r1:RN w (.slice p1 (zlen x) c1) x.natAbs) :
 CZ 90 #[.agg #[.bool (zneg x),.slice p1 (zlen x) c1]] w z:=by subst hz;exact rz_sh (zOpposite _ x hx w (Rz.mk r1))
end Go.Proofs.YthjmjlfnpnbonaaGreatDoor
namespace Go.Gb
theorem mk_parts (num:Int)(den:Nat)(hd:den≠0):(mkRat num den).num=num / ((Nat.gcd num.natAbs den:Nat):Int)∧(mkRat num den).den=den / Nat.gcd num.natAbs den:=by
 rw[← Rat.normalize_eq_mkRat hd,Rat.normalize_eq hd]
 exact⟨rfl,rfl⟩
theorem add_parts (X Y:Rat)(g more rest:Nat)(num:Int)(hg:g=Nat.gcd X.den Y.den)(hm:more=Y.den / g)(hnum:num=X.num*(more:Int)+Y.num*((X.den / g:Nat):Int))(hr:rest=Nat.gcd num.natAbs g) :
 (X+Y).num=num / (rest:Int)∧(X+Y).den=X.den / rest*more:=by
 have hY:=Y.den_nz
 have hX:=X.den_nz
 have hg0:0<g:=by rw[hg];exact Nat.gcd_pos_of_pos_left _ (by omega)
 have dX:g∣X.den:=by rw[hg];exact Nat.gcd_dvd_left _ _
 have dY:g∣Y.den:=by rw[hg];exact Nat.gcd_dvd_right _ _
 have hr0:0<rest:=by rw[hr];exact Nat.gcd_pos_of_pos_right _ hg0
 have drg:rest∣g:=by rw[hr];exact Nat.gcd_dvd_right _ _
 have hden:X.den / g*Y.den / rest=X.den / rest*more:=by
  obtain⟨p,hp⟩:=dX
  obtain⟨q,hq⟩:=dY
  obtain⟨t,ht⟩:=drg
  rw[hm,hp,hq,Nat.mul_div_cancel_left _ hg0,Nat.mul_div_cancel_left _ hg0]
  have e3:p*(g*q)=rest*(t*p*q):=by rw[ht];ac_rfl
  have e4:g*p=rest*(t*p):=by rw[ht];ac_rfl
  rw[e3,e4,Nat.mul_div_cancel_left _ hr0,Nat.mul_div_cancel_left _ hr0]
 have h:X+Y=Rat.add X Y:=rfl
 rw[h]
 subst hg hm hr
 unfold Rat.add
 simp only
 split
 · rename_i h1
   rw[h1,Nat.div_one,Nat.div_one]at hnum
   simp only
   rw[h1,Nat.gcd_one_right,Nat.div_one,Nat.div_one]
   exact⟨by rw[hnum];simp,rfl⟩
 · rw[Rat.maybeNormalize_eq]
   simp only[Int.divExact_eq_ediv,← hnum]
   exact⟨trivial,hden⟩
theorem mul_parts (X Y:Rat)(g1 g2:Nat)(h1:g1=Nat.gcd X.num.natAbs Y.den)(h2:g2=Nat.gcd Y.num.natAbs X.den) :
 (X*Y).num=X.num / (g1:Int)*(Y.num / (g2:Int))∧(X*Y).den=X.den / g2*(Y.den / g1):=by
 subst h1 h2
 have h:X*Y=Rat.mul X Y:=rfl
 rw[h]
 unfold Rat.mul
 simp only[Int.divExact_eq_ediv,Nat.divExact_eq_div]
 exact⟨trivial,trivial⟩
theorem neg_parts (X:Rat):(-X).num = -X.num∧(-X).den=X.den:=⟨rfl,rfl⟩
theorem inv_pos {X:Rat}(h:0<X.num):(X⁻¹).num=(X.den:Int)∧((X⁻¹).den:Int)=X.num:=by
 have e:X⁻¹=Rat.inv X:=rfl
 rw[e]
 unfold Rat.inv
 rw[dif_neg (by omega),dif_pos h]
 exact⟨rfl,by simp only;omega⟩
theorem inv_neg' {X:Rat}(h:X.num<0):(X⁻¹).num = -(X.den:Int)∧((X⁻¹).den:Int) = -X.num:=by
 have e:X⁻¹=Rat.inv X:=rfl
 rw[e]
 unfold Rat.inv
 rw[dif_pos h]
 exact⟨rfl,by simp only;omega⟩
theorem add_small (X Y:Rat):X+Y=mkRat (X.num*(Y.den:Int)+Y.num*(X.den:Int)) (X.den*Y.den):=by
 have h1:=X.den_nz
 have h2:=Y.den_nz
 rw[Rat.add_def,Rat.normalize_eq_mkRat]
theorem mul_small (X Y:Rat):X*Y=mkRat (X.num*Y.num) (X.den*Y.den):=by
 rw[Rat.mul_def,Rat.normalize_eq_mkRat]
theorem sub_small (X Y:Rat):X-Y=mkRat (X.num*(Y.den:Int)-Y.num*(X.den:Int)) (X.den*Y.den):=by
 rw[Rat.sub_eq_add_neg,add_small]
 show mkRat (X.num*(Y.den:Int) + -Y.num*(X.den:Int)) (X.den*Y.den)=_
 rw[Int.neg_mul];congr 1
theorem div_small_pos (X Y:Rat)(h:0<Y.num):X / Y=mkRat (X.num*(Y.den:Int)) (X.den*Y.num.toNat):=by
 obtain⟨e1,e2⟩:=inv_pos h
 rw[Rat.div_def,mul_small,e1]
 congr 2
 omega
theorem div_small_neg (X Y:Rat)(h:Y.num<0):X / Y=mkRat (-(X.num*(Y.den:Int))) (X.den*(-Y.num).toNat):=by
 obtain⟨e1,e2⟩:=inv_neg' h
 rw[Rat.div_def,mul_small,e1,Int.mul_neg]
 congr 2
 omega
def cmpQ (x y:Rat):Int:=if x<y then -1 else if y<x then 1 else 0
theorem cmpQ_lt {x y:Rat}(h:x<y):cmpQ x y = -1:=by unfold cmpQ;rw[if_pos h]
theorem cmpQ_gt {x y:Rat}(h:y<x):cmpQ x y=1:=by
 unfold cmpQ;rw[if_neg (by grind),if_pos h]
theorem cmpQ_eq (x:Rat):cmpQ x x=0:=by
 unfold cmpQ;rw[if_neg (by grind),if_neg (by grind)]
theorem cmpQ_cross (X Y:Rat)(a b:Int)(ha:a=X.num*(Y.den:Int))(hb:b=Y.num*(X.den:Int)):cmpQ X Y=if a<b then -1 else if b<a then 1 else 0:=by
 unfold cmpQ
 simp only[Rat.lt_iff,← ha,← hb]
theorem cmpQ_cases (x y:Rat):(x<y∧cmpQ x y = -1)∨(x=y∧cmpQ x y=0)∨(y<x∧cmpQ x y=1):=by
 by_cases h1:x<y
 · exact Or.inl ⟨h1,cmpQ_lt h1⟩
 · by_cases h2:y<x
   · exact Or.inr (Or.inr ⟨h2,cmpQ_gt h2⟩)
   · have:x=y:=by grind
     subst this
     exact Or.inr (Or.inl ⟨rfl,cmpQ_eq x⟩)
end Go.Gb
set_option maxRecDepth 100000
set_option maxHeartbeats 20000000
open Go.Lib (hid)
namespace Go.Proofs.YthjmjlfnpnbonaaGreatDoor
open Go.RowKit Go.Gb
theorem cOverE (v1 v2:Value)(a b q r:Nat)(hq:a / b=q)(hr:a%b=r)(hb:b≠0)(hl:nlen a≤50000)(w:World)(h1:RN w v1 a)(h2:RN w v2 b) :
 Calls Tryz.prog 72 #[v1,v2] w fun e w'=>∃ p c p' c',e=.returned (.tuple #[.slice p (nlen q) c,.slice p' (nlen r) c'])∧RN w' (.slice p (nlen q) c) q∧RN w' (.slice p' (nlen r) c') r∧Below w.heap.size w w':=by
 subst hq hr;exact cOver v1 v2 a b hb hl w h1 h2
theorem rn_cell {w:World}{p:Option Addr}{n c g:Nat}(h:RN w (.slice p n c) g)(hg:(digs g).length=1):∃ b o,p=some ⟨b,o,none⟩∧n=1∧w.cell? ⟨b,o,none⟩=some (.int .u32 (g:Int)):=by
 rcases h with⟨e,h⟩|⟨b,o,c',e,h2,h3,h4,h5⟩
 · rw[h]at hg;cases hg
 · injection e with e1 e2 e3
   refine⟨b,o,e1,by omega,?_⟩
   have h6:=h5 0 (by omega)
   have hv:=wval_digs g
   have hd:digs g=[(digs g).getD 0 0]:=by
    match hk:digs g,hg with
    | [x],_=>rfl
   rw[hd]at hv
   have e0:(digs g).getD 0 0=g:=by simpa [wval] using hv
   rw[e0]at h6
   exact h6
theorem lowest_one (z:Int)(d:Nat)(hz:zlen z≤50000)(hd:nlen d≤50000)(p1:Option Addr)(c1:Nat)(s1:Option Addr)(d1:Nat)(hg:Nat.gcd z.natAbs d=1)(w:World)(r1:RN w (.slice p1 (zlen z) c1) z.natAbs)(t1:RN w (.slice s1 (nlen d) d1) d) :
 Calls Tryz.prog 81 #[.agg #[.bool (zneg z),.slice p1 (zlen z) c1],.slice s1 (nlen d) d1] w fun e w'=>∃ p c s e1,e=.returned (.agg #[.bool (zneg z),.slice p (zlen z) c,.slice s (nlen d) e1])∧RN w' (.slice p (zlen z) c) z.natAbs∧RN w' (.slice s (nlen d) e1) d∧Below w.heap.size w w':=by
 have C1:=hid (show ∀ v1 v2 W,RN W v1 z.natAbs→RN W v2 d→Calls Tryz.prog 51 #[v1,v2] W fun e w'=>∃ b o c,e=.returned (.slice (some ⟨b,o,none⟩) 1 c)∧w'.cell? ⟨b,o,none⟩=some (.int .u32 1)∧Below W.heap.size W w' from fun v1 v2 W h1 h2=>by
  refine(cCommon v1 v2 z.natAbs d 1 hg hz hd W h1 h2).mono ?_
  rintro e w' ⟨p,c,rfl,hr,hb⟩
  obtain⟨b,o,rfl,_,h⟩:=rn_cell hr nlen_one
  rw[nlen_one]
  exact⟨b,o,c,rfl,h,hb⟩)
 clear hg hz hd
 have R1:=hid r1
 have T1:=hid t1
 clear r1 t1
 go_enter Tryz.func81,Tryz.ntmps81
 go_upto_region 1 with fail
 refine wp_boxes w [(#[.bool (zneg z),.slice p1 (zlen z) c1],51),(#[.bool false,.slice none 0 0,.slice none 0 0],53)] rfl ?_
 rintro W0 ⟨k1,k2,hb⟩
 have HB0:=hid (show Below w.heap.size w W0 from hb)
 have R1:=hid (R1.out.below HB0.out)
 have T1:=hid (T1.out.below HB0.out)
 have K1:=hid k1
 have K2:=hid k2
 clear k1 k2 hb
 have dK11:=K1.out.cell (i:=1) rfl
 go_wp2_with fail
 with_reducible refine(C1.out _ _ _ R1.out T1.out).mono ?_
 rintro e W1 ⟨b_1,o_1,c_1,rfl,r1_0,hb⟩
 clear dK11
 have K1:=hid (K1.out.below hb)
 have K2:=hid (K2.out.below hb)
 have R1:=hid (R1.out.below hb)
 have T1:=hid (T1.out.below hb)
 have HB1:=hbt HB0 hb
 have XC:=hid r1_0
 clear hb r1_0
 have dxc:=XC.out
 have dK10:=K1.out.cell (i:=0) rfl
 have dK11:=K1.out.cell (i:=1) rfl
 have dK20:=K2.out.cell (i:=0) rfl
 have dK21:=K2.out.cell (i:=1) rfl
 have dK22:=K2.out.cell (i:=2) rfl
 have fK20:=K2.out.frozen (i:=0)
 have fK21:=K2.out.frozen (i:=1)
 have fK22:=K2.out.frozen (i:=2)
 go_wp2
 exact bodyPost_ret (v:=.agg #[.bool (zneg z),.slice p1 (zlen z) c1,.slice s1 (nlen d) d1]) (by simp[results,Tryz.results81,go_sem,dK20,dK21,dK22]) rfl ⟨_,_,_,_,rfl,(store_rn [.bool (zneg z),.slice p1 (zlen z) c1,.slice s1 (nlen d) d1] R1.out K2.out (by simp[noInt]) (by simp[plainV])),(store_rn [.bool (zneg z),.slice p1 (zlen z) c1,.slice s1 (nlen d) d1] T1.out K2.out (by simp[noInt]) (by simp[plainV])),(store_below (l:=[.bool (zneg z),.slice p1 (zlen z) c1,.slice s1 (nlen d) d1]) (i:=0) (by omega) HB1.out)⟩
theorem lowest_word (z:Int)(d:Nat)(hz:zlen z≤50000)(hd:nlen d≤50000)(p1:Option Addr)(c1:Nat)(s1:Option Addr)(d1:Nat)(g a a1 b b1:Nat)(y:Int)(hg:Nat.gcd z.natAbs d=g)(g0:g≠0)(g1:g≠1)(gl:nlen g=1)(ha:z.natAbs / g=a)(ha1:z.natAbs%g=a1)(hb:d / g=b)(hb1:d%g=b1)(hy:y=if zneg z then -(a:Int) else (a:Int))(w:World)(r1:RN w (.slice p1 (zlen z) c1) z.natAbs)(t1:RN w (.slice s1 (nlen d) d1) d) :
 Calls Tryz.prog 81 #[.agg #[.bool (zneg z),.slice p1 (zlen z) c1],.slice s1 (nlen d) d1] w fun e w'=>∃ p c s e1,e=.returned (.agg #[.bool (zneg y),.slice p (zlen y) c,.slice s (nlen b) e1])∧RN w' (.slice p (zlen y) c) y.natAbs∧RN w' (.slice s (nlen b) e1) b∧Below w.heap.size w w':=by
 have C1:=hid (show ∀ v1 v2 W,RN W v1 z.natAbs→RN W v2 d→Calls Tryz.prog 51 #[v1,v2] W fun e w'=>∃ b o c,e=.returned (.slice (some ⟨b,o,none⟩) 1 c)∧w'.cell? ⟨b,o,none⟩=some (.int .u32 (g:Int))∧RN w' (.slice (some ⟨b,o,none⟩) 1 c) g∧Below W.heap.size W w' from fun v1 v2 W h1 h2=>by
  refine(cCommon v1 v2 z.natAbs d g hg hz hd W h1 h2).mono ?_
  rintro e w' ⟨p,c,rfl,hr,hb⟩
  obtain⟨b,o,rfl,_,h⟩:=rn_cell hr gl
  rw[gl]at hr ⊢
  exact⟨b,o,c,rfl,h,hr,hb⟩)
 have C2:=hid (fun v1 v2 W h1 h2=>cOverE v1 v2 z.natAbs g a a1 ha ha1 g0 hz W h1 h2)
 have C3:=hid (fun v1 v2 W h1 h2=>cOverE v1 v2 d g b b1 hb hb1 g0 hd W h1 h2)
 have C4:=hid (fun v W h=>cMake (zneg z) v a y hy (by rw[← ha];exact Nat.le_trans (nlen_mono (Nat.div_le_self _ _)) (Nat.le_trans hz (by decide))) W h)
 have g1':((g:Int)==1)=false:=by rw[beq_eq_false_iff_ne];omega
 have g2':¬ (g:Int)=1:=by omega
 have g3':¬ g=1:=g1
 clear gl g1 hg hz hd g0 ha ha1 hb hb1 hy
 have R1:=hid r1
 have T1:=hid t1
 clear r1 t1
 go_enter Tryz.func81,Tryz.ntmps81
 go_upto_region 1 with fail
 refine wp_boxes w [(#[.bool (zneg z),.slice p1 (zlen z) c1],51),(#[.bool false,.slice none 0 0,.slice none 0 0],53)] rfl ?_
 rintro W0 ⟨k1,k2,hb⟩
 have HB0:=hid (show Below w.heap.size w W0 from hb)
 have R1:=hid (R1.out.below HB0.out)
 have T1:=hid (T1.out.below HB0.out)
 have K1:=hid k1
 have K2:=hid k2
 clear k1 k2 hb
 have dK11:=K1.out.cell (i:=1) rfl
 go_wp2_with fail
 with_reducible refine(C1.out _ _ _ R1.out T1.out).mono ?_
 rintro e W1 ⟨b_1,o_1,c_1,rfl,r1_0,r1_1,hb⟩
 clear dK11
 have K1:=hid (K1.out.below hb)
 have K2:=hid (K2.out.below hb)
 have R1:=hid (R1.out.below hb)
 have T1:=hid (T1.out.below hb)
 have HB1:=hbt HB0 hb
 have XC:=hid r1_0
 have RG:=hid r1_1
 clear hb r1_0 r1_1
 have dxc:=XC.out
 have dK11:=K1.out.cell (i:=1) rfl
 go_wp2_with fail
 with_reducible refine(C2.out _ _ _ R1.out RG.out).mono ?_
 rintro e W2 ⟨pa_2,ca_2,pb_2,cb_2,rfl,r2_0,r2_1,hb⟩
 clear dK11
 have K1:=hid (K1.out.below hb)
 have K2:=hid (K2.out.below hb)
 have T1:=hid (T1.out.below hb)
 have RG:=hid (RG.out.below hb)
 have HB2:=hbt HB1 hb
 have RA:=hid r2_0
 have RA1:=hid r2_1
 clear hb r2_0 r2_1
 go_wp2_with fail
 with_reducible refine(C3.out _ _ _ T1.out RG.out).mono ?_
 rintro e W3 ⟨pa_3,ca_3,pb_3,cb_3,rfl,r3_0,r3_1,hb⟩
 have K1:=hid (K1.out.below hb)
 have K2:=hid (K2.out.below hb)
 have RA:=hid (RA.out.below hb)
 have HB3:=hbt HB2 hb
 have RB:=hid r3_0
 have RB1:=hid r3_1
 clear hb r3_0 r3_1
 have dK10:=K1.out.cell (i:=0) rfl
 go_wp2_with fail
 with_reducible refine(C4.out _ _ RA.out).mono ?_
 rintro e W4 ⟨p_4,c_4,rfl,r4_0,hb⟩
 clear dK10
 have K2:=hid (K2.out.below hb)
 have RB:=hid (RB.out.below hb)
 have HB4:=hbt HB3 hb
 have RY:=hid r4_0
 clear hb r4_0
 have dK20:=K2.out.cell (i:=0) rfl
 have dK21:=K2.out.cell (i:=1) rfl
 have dK22:=K2.out.cell (i:=2) rfl
 have fK20:=K2.out.frozen (i:=0)
 have fK21:=K2.out.frozen (i:=1)
 have fK22:=K2.out.frozen (i:=2)
 go_wp2
 exact bodyPost_ret (v:=.agg #[.bool (zneg y),.slice p_4 (zlen y) c_4,.slice pa_3 (nlen b) ca_3]) (by simp[results,Tryz.results81,go_sem,dK20,dK21,dK22]) rfl ⟨_,_,_,_,rfl,(store_rn [.bool (zneg y),.slice p_4 (zlen y) c_4,.slice pa_3 (nlen b) ca_3] RY.out K2.out (by simp[noInt]) (by simp[plainV])),(store_rn [.bool (zneg y),.slice p_4 (zlen y) c_4,.slice pa_3 (nlen b) ca_3] RB.out K2.out (by simp[noInt]) (by simp[plainV])),(store_below (l:=[.bool (zneg y),.slice p_4 (zlen y) c_4,.slice pa_3 (nlen b) ca_3]) (i:=0) (by omega) HB4.out)⟩
theorem lowest_long (z:Int)(d:Nat)(hz:zlen z≤50000)(hd:nlen d≤50000)(p1:Option Addr)(c1:Nat)(s1:Option Addr)(d1:Nat)(g a a1 b b1:Nat)(y:Int)(hg:Nat.gcd z.natAbs d=g)(g0:g≠0)(gl:nlen g≠1)(ha:z.natAbs / g=a)(ha1:z.natAbs%g=a1)(hb:d / g=b)(hb1:d%g=b1)(hy:y=if zneg z then -(a:Int) else (a:Int))(w:World)(r1:RN w (.slice p1 (zlen z) c1) z.natAbs)(t1:RN w (.slice s1 (nlen d) d1) d) :
 Calls Tryz.prog 81 #[.agg #[.bool (zneg z),.slice p1 (zlen z) c1],.slice s1 (nlen d) d1] w fun e w'=>∃ p c s e1,e=.returned (.agg #[.bool (zneg y),.slice p (zlen y) c,.slice s (nlen b) e1])∧RN w' (.slice p (zlen y) c) y.natAbs∧RN w' (.slice s (nlen b) e1) b∧Below w.heap.size w w':=by
 have C1:=hid (fun v1 v2 W h1 h2=>cCommon v1 v2 z.natAbs d g hg hz hd W h1 h2)
 have C2:=hid (fun v1 v2 W h1 h2=>cOverE v1 v2 z.natAbs g a a1 ha ha1 g0 hz W h1 h2)
 have C3:=hid (fun v1 v2 W h1 h2=>cOverE v1 v2 d g b b1 hb hb1 g0 hd W h1 h2)
 have C4:=hid (fun v W h=>cMake (zneg z) v a y hy (by rw[← ha];exact Nat.le_trans (nlen_mono (Nat.div_le_self _ _)) (Nat.le_trans hz (by decide))) W h)
 have g1':((nlen g:Int)==1)=false:=by rw[beq_eq_false_iff_ne];omega
 have g2':¬ (nlen g:Int)=1:=by omega
 have g3':¬ nlen g=1:=gl
 clear gl hg hz hd g0 ha ha1 hb hb1 hy
 have R1:=hid r1
 have T1:=hid t1
 clear r1 t1
 go_enter Tryz.func81,Tryz.ntmps81
 go_upto_region 1 with fail
 refine wp_boxes w [(#[.bool (zneg z),.slice p1 (zlen z) c1],51),(#[.bool false,.slice none 0 0,.slice none 0 0],53)] rfl ?_
 rintro W0 ⟨k1,k2,hb⟩
 have HB0:=hid (show Below w.heap.size w W0 from hb)
 have R1:=hid (R1.out.below HB0.out)
 have T1:=hid (T1.out.below HB0.out)
 have K1:=hid k1
 have K2:=hid k2
 clear k1 k2 hb
 have dK11:=K1.out.cell (i:=1) rfl
 go_wp2_with fail
 with_reducible refine(C1.out _ _ _ R1.out T1.out).mono ?_
 rintro e W1 ⟨p_1,c_1,rfl,r1_0,hb⟩
 clear dK11
 have K1:=hid (K1.out.below hb)
 have K2:=hid (K2.out.below hb)
 have R1:=hid (R1.out.below hb)
 have T1:=hid (T1.out.below hb)
 have HB1:=hbt HB0 hb
 have RG:=hid r1_0
 clear hb r1_0
 have dK11:=K1.out.cell (i:=1) rfl
 go_wp2_with fail
 with_reducible refine(C2.out _ _ _ R1.out RG.out).mono ?_
 rintro e W2 ⟨pa_2,ca_2,pb_2,cb_2,rfl,r2_0,r2_1,hb⟩
 clear dK11
 have K1:=hid (K1.out.below hb)
 have K2:=hid (K2.out.below hb)
 have T1:=hid (T1.out.below hb)
 have RG:=hid (RG.out.below hb)
 have HB2:=hbt HB1 hb
 have RA:=hid r2_0
 have RA1:=hid r2_1
 clear hb r2_0 r2_1
 go_wp2_with fail
 with_reducible refine(C3.out _ _ _ T1.out RG.out).mono ?_
 rintro e W3 ⟨pa_3,ca_3,pb_3,cb_3,rfl,r3_0,r3_1,hb⟩
 have K1:=hid (K1.out.below hb)
 have K2:=hid (K2.out.below hb)
 have RA:=hid (RA.out.below hb)
 have HB3:=hbt HB2 hb
 have RB:=hid r3_0
 have RB1:=hid r3_1
 clear hb r3_0 r3_1
 have dK10:=K1.out.cell (i:=0) rfl
 go_wp2_with fail
 with_reducible refine(C4.out _ _ RA.out).mono ?_
 rintro e W4 ⟨p_4,c_4,rfl,r4_0,hb⟩
 clear dK10
 have K2:=hid (K2.out.below hb)
 have RB:=hid (RB.out.below hb)
 have HB4:=hbt HB3 hb
 have RY:=hid r4_0
 clear hb r4_0
 have dK20:=K2.out.cell (i:=0) rfl
 have dK21:=K2.out.cell (i:=1) rfl
 have dK22:=K2.out.cell (i:=2) rfl
 have fK20:=K2.out.frozen (i:=0)
 have fK21:=K2.out.frozen (i:=1)
 have fK22:=K2.out.frozen (i:=2)
 go_wp2
 exact bodyPost_ret (v:=.agg #[.bool (zneg y),.slice p_4 (zlen y) c_4,.slice pa_3 (nlen b) ca_3]) (by simp[results,Tryz.results81,go_sem,dK20,dK21,dK22]) rfl ⟨_,_,_,_,rfl,(store_rn [.bool (zneg y),.slice p_4 (zlen y) c_4,.slice pa_3 (nlen b) ca_3] RY.out K2.out (by simp[noInt]) (by simp[plainV])),(store_rn [.bool (zneg y),.slice p_4 (zlen y) c_4,.slice pa_3 (nlen b) ca_3] RB.out K2.out (by simp[noInt]) (by simp[plainV])),(store_below (l:=[.bool (zneg y),.slice p_4 (zlen y) c_4,.slice pa_3 (nlen b) ca_3]) (i:=0) (by omega) HB4.out)⟩
end Go.Proofs.YthjmjlfnpnbonaaGreatDoor
namespace Go.Gb
open Go Go.RowKit
theorem store_blk_9 {w:World}{g:Nat}{T:TypeId}{x0 x1 x2 x3 x4 x5 x6 x7 x8 a b c d e f h i j:Value}(hk:SBk w g #[x0,x1,x2,x3,x4,x5,x6,x7,x8] T):SBk (storeAll w g 0 [a,b,c,d,e,f,h,i,j]) g #[a,b,c,d,e,f,h,i,j] T:=by
 have:=store_blk [a,b,c,d,e,f,h,i,j] 0 hk
 simpa [setAll] using this
theorem storeAll_9 (w:World)(g:Nat)(a b c d e f h i j:Value):storeAll w g 0 [a,b,c,d,e,f,h,i,j]=((((((((w.setCell ⟨g,0,none⟩ a).setCell ⟨g,1,none⟩ b).setCell ⟨g,2,none⟩ c).setCell ⟨g,3,none⟩ d).setCell ⟨g,4,none⟩ e).setCell ⟨g,5,none⟩ f).setCell ⟨g,6,none⟩ h).setCell ⟨g,7,none⟩ i).setCell ⟨g,8,none⟩ j:=rfl
end Go.Gb
namespace Go.Gb
open Go Go.RowKit
theorem store_blk_2 {w:World}{g:Nat}{T:TypeId}{x0 x1 a b:Value}(h:SBk w g #[x0,x1] T):SBk (storeAll w g 0 [a,b]) g #[a,b] T:=by
 have:=store_blk [a,b] 0 h
 simpa [setAll] using this
theorem storeAll_2 (w:World)(g:Nat)(a b:Value):storeAll w g 0 [a,b]=(w.setCell ⟨g,0,none⟩ a).setCell ⟨g,1,none⟩ b:=rfl
theorem store_blk_3 {w:World}{g:Nat}{T:TypeId}{x0 x1 x2 a b c:Value}(h:SBk w g #[x0,x1,x2] T):SBk (storeAll w g 0 [a,b,c]) g #[a,b,c] T:=by
 have:=store_blk [a,b,c] 0 h
 simpa [setAll] using this
theorem storeAll_3 (w:World)(g:Nat)(a b c:Value):storeAll w g 0 [a,b,c]=((w.setCell ⟨g,0,none⟩ a).setCell ⟨g,1,none⟩ b).setCell ⟨g,2,none⟩ c:=rfl
theorem below_new (W:World)(o:Obj):Below W.heap.size W (W.alloc o):=(Below.refl W.heap.size W).alloc (Nat.le_refl _) o
theorem putL_more (s:Nat)(v:Value):∀ (L:List (Nat × Value)) (t:Array Value),putL (L++[(s,v)]) t=(putL L t).setIfInBounds s v
 | [],_=>rfl
 | p :: L,t=>putL_more s v L (t.setIfInBounds p.1 p.2)
theorem put_more {a:Act}{L L':List (Nat × Value)}{t:Array Value}{b:Act}{s:Nat}{v:Value}(h:a=⟨putL L t,b.defers⟩)(hL:L++[(s,v)]=L'):(⟨a.tmps.setIfInBounds s v,a.defers⟩:Act)=⟨putL L' t,b.defers⟩:=by
 subst hL
 rw[putL_more,h]
end Go.Gb
